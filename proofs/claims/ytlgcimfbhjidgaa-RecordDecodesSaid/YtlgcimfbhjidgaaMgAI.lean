import Derived.Test.YtlgcimfbhjidgaaMgAH
import Derived.Deep.RegionHeld3
import Derived.Laws.IdiomStrings
import Derived.Laws.BytesString
import Derived.Laws.Concat
import Derived.Lib.AppendStr

section
namespace Go.Proofs.Ytlgcimfbhjidgaa
open Go.RowKit

theorem count_ok {w : World} {B p n m : Nat} {most : Int} {b : ByteArray} (h : Rd w B b p 0) (hp : p ≤ b.size) (hb : b.size ≤ 140737488351232) (hm : most ≤ 9223372036854775807)
    (hD : Pk.dec 0 0 (rest b p) = (0, n, m)) (hn : n ≤ most.toNat) :
    Calls Try.prog 77 #[.pointer (some ⟨B, 0, none⟩), .int .i64 most] w fun e w' => e = .returned (.int .i64 (n : Int)) ∧ Rd w' B b ((p + m : Nat) : Int) 0 ∧ w.grownBy w' (some B) := by
  refine (count_any h hp hb hm).mono ?_
  rintro e w' (⟨n', m', hD', hn', rfl, hR, hg⟩ | ⟨n', m', hD', hn', he, hR, hg⟩ | ⟨k, hk, hD', he, hR, hg⟩)
  · rw [hD] at hD'
    injection hD' with _ e2
    injection e2 with e3 e4
    subst e3; subst e4
    exact ⟨rfl, hR, hg⟩
  · rw [hD] at hD'
    injection hD' with _ e2
    injection e2 with e3 e4
    omega
  · rw [hD] at hD'
    injection hD' with e1 _
    exact absurd e1.symm hk
theorem count_no {w : World} {B p : Nat} {most : Int} {b : ByteArray} (h : Rd w B b p 0) (hp : p ≤ b.size) (hb : b.size ≤ 140737488351232) (hm : most ≤ 9223372036854775807) (hk : numK b p most.toNat 23 ≠ 0) :
    Calls Try.prog 77 #[.pointer (some ⟨B, 0, none⟩), .int .i64 most] w fun e w' => Gives e (numK b p most.toNat 23) ∧ (∃ q : Int, Rd w' B b q 0) ∧ w.grownBy w' (some B) := by
  refine (count_any h hp hb hm).mono ?_
  rintro e w' (⟨n', m', hD', hn', rfl, hR, hg⟩ | ⟨n', m', hD', hn', he, hR, hg⟩ | ⟨k, hk, hD', he, hR, hg⟩)
  · exact absurd (numK_ok hD' hn') hk
  · rw [numK_above hD' hn']; exact ⟨he, hR, hg⟩
  · rw [numK_bad hD' hk]; exact ⟨he, hR, hg⟩

def textK (b : ByteArray) (p most : Nat) : Nat := if numK b p most 23 ≠ 0 then numK b p most 23 else if b.size < numQ b p + numV b p then 20 else 0
def textV (b : ByteArray) (p : Nat) : ByteArray := b.extract (numQ b p) (numQ b p + numV b p)

theorem num_parts (b : ByteArray) (p most : Nat) (hp : p ≤ b.size) (h : numK b p most 23 = 0) : Pk.dec 0 0 (rest b p) = (0, numV b p, numQ b p - p) ∧ numV b p ≤ most ∧ p < numQ b p ∧ numQ b p ≤ b.size := by
  unfold numK at h
  by_cases h1 : (Pk.dec 0 0 (rest b p)).1 = 0
  · rw [if_neg (by simpa using h1)] at h
    have hD : Pk.dec 0 0 (rest b p) = (0, (Pk.dec 0 0 (rest b p)).2.1, (Pk.dec 0 0 (rest b p)).2.2) := Prod.ext h1 rfl
    obtain ⟨l1, l2⟩ := Pk.dec_le _ _ _ _ _ hD (by decide)
    rw [rest_len] at l2
    have hmost : ¬ most < (Pk.dec 0 0 (rest b p)).2.1 := fun hh => by rw [if_pos hh] at h; cases h
    unfold numV numQ
    refine ⟨?_, by omega, by omega, by omega⟩
    rw [show p + (Pk.dec 0 0 (rest b p)).2.2 - p = (Pk.dec 0 0 (rest b p)).2.2 by omega]
    exact hD
  · rw [if_pos (by simpa using h1)] at h
    exact absurd h h1

set_option maxHeartbeats 400000 in
set_option maxRecDepth 8000 in
theorem text1_any {w : World} {B X Y p : Nat} {most : Int} {b : ByteArray} (h : Rd w B b p 0) (hp : p ≤ b.size) (hb : b.size ≤ 140737488351232) (hm : most ≤ 9223372036854775807)
    (hX : w.cell? ⟨X, 0, none⟩ = some (.pointer (some ⟨B, 0, none⟩))) (hY : w.cell? ⟨Y, 0, none⟩ = some (.int .i64 most)) (hXB : X ≠ B) (hYB : Y ≠ B) :
    Calls Try.prog 75 #[.pointer (some ⟨X, 0, none⟩), .pointer (some ⟨Y, 0, none⟩)] w (RPost w B b (.string (textV b p)) (numQ b p + numV b p) (textK b p most.toNat)) := by
  by_cases hk : numK b p most.toNat 23 = 0
  · obtain ⟨hD, hn, hq1, hq2⟩ := num_parts b p most.toNat hp hk
    have HD : Hid (Pk.dec 0 0 (rest b p) = (0, numV b p, numQ b p - p)) := hD
    by_cases hs : numQ b p + numV b p ≤ b.size
    · have HK : Hid (textK b p most.toNat = 0) := (show textK b p most.toNat = 0 by unfold textK; rw [if_neg (by simpa using hk), if_neg (by omega)])
      have HT : Hid (textV b p = b.extract (numQ b p) (numQ b p + numV b p)) := (show textV b p = _ from rfl)
      generalize numQ b p = Q at *
      generalize numV b p = V at *
      generalize textV b p = T at *
      clear hk hD
      go_enter Try.func75, Try.ntmps75
      go_wp2_with fail
      go_region_held3 (fun w' => w'.cell? ⟨X, 0, none⟩ = some (.pointer (some ⟨B, 0, none⟩)) ∧ w'.cell? ⟨Y, 0, none⟩ = some (.int .i64 most)) (go_keep) (first
        | (go_at_call 77; refine (count_ok (h.drew _) hp hb hm HD.out hn).mono ?_; rintro e w1 ⟨rfl, hR1, hg1⟩; have hX1 : w1.cell? ⟨X, 0, none⟩ = some (.pointer (some ⟨B, 0, none⟩)) := hg1.cell hX (by simpa using hXB); have hY1 : w1.cell? ⟨Y, 0, none⟩ = some (.int .i64 most) := hg1.cell hY (by simpa using hYB))
        | (go_at_call 73; refine (take_any hR1 (by omega) (by omega) hb (by omega) (by omega)).mono ?_; rintro e w2 ⟨rfl, hR2, hg2⟩; have hX2 : w2.cell? ⟨X, 0, none⟩ = some (.pointer (some ⟨B, 0, none⟩)) := hg2.cell hX1 (by simpa using hXB); have hY2 : w2.cell? ⟨Y, 0, none⟩ = some (.int .i64 most) := hg2.cell hY1 (by simpa using hYB))
        | (go_at_call 76; refine (clone_any _ _ (by rw [ByteArray.size_extract]; omega)).mono ?_; rintro e w3 ⟨rfl, hb3⟩; have hX3 : w3.cell? ⟨X, 0, none⟩ = some (.pointer (some ⟨B, 0, none⟩)) := (hb3.cell (World.block_lt_of_cell? _ _ hX2)).trans hX2; have hY3 : w3.cell? ⟨Y, 0, none⟩ = some (.int .i64 most) := (hb3.cell (World.block_lt_of_cell? _ _ hY2)).trans hY2))
      go_wp2
      go_ret
      exact .inl ⟨HK.out, by rw [HT.out]; exact congrArg Ending.returned (congrArg Value.string (show b.extract ((p : Int) + ((Q - p : Nat) : Int)).toNat ((p : Int) + ((Q - p : Nat) : Int) + (V : Int)).toNat = _ by congr 1 <;> omega)),
        by have := hR2.below hb3 hR2.lt; rw [show ((Q + V : Nat) : Int) = ((p + (Q - p) : Nat) : Int) + (V : Int) by omega]; exact this, grown_trans (grown_drew w 1 _) (grown_trans hg1 (grown_trans hg2 (grown_below hb3 _)))⟩
    · have HK : Hid (textK b p most.toNat = 20) := (show textK b p most.toNat = 20 by unfold textK; rw [if_neg (by simpa using hk), if_pos (by omega)])
      generalize numQ b p = Q at *
      generalize numV b p = V at *
      clear hk hD
      go_enter Try.func75, Try.ntmps75
      go_wp2_with fail
      refine wp_region_held_drew (S := fun w' => w'.cell? ⟨X, 0, none⟩ = some (.pointer (some ⟨B, 0, none⟩)) ∧ w'.cell? ⟨Y, 0, none⟩ = some (.int .i64 most)) (by kernel_rfl) ⟨hX, hY⟩ (fun hHeld => ?_)
      refine wpAnyH_take (i := 0) (v := .pointer (some ⟨B, 0, none⟩)) rfl (by kernel_rfl) (by kernel_rfl) (by kernel_rfl) (fun _ _ _ h => h) (Or.inl ⟨by rfl, fun w1 hSw => by have hS1 := hSw.1; clear hHeld; go_simp⟩) hHeld ?_
      simp only [Act.put, List.setIfInBounds_toArray]
      refine wpAnyH_take (i := 1) (v := .pointer (some ⟨B, 0, none⟩)) rfl (by kernel_rfl) (by kernel_rfl) (by kernel_rfl) (fun _ _ _ h => h) (Or.inl ⟨by rfl, fun w1 hSw => by have hS1 := hSw.1; clear hHeld; go_simp⟩) hHeld ?_
      simp only [Act.put]
      refine wpAnyH_take (i := 2) (v := .int .i64 most) rfl (by kernel_rfl) (by kernel_rfl) (by kernel_rfl) (fun _ _ _ h => h) (Or.inl ⟨by rfl, fun w1 hSw => by have hS1 := hSw.2; clear hHeld; go_simp⟩) hHeld ?_
      simp only [Act.put]
      refine wpAnyH_ready (rs := [3]) (by kernel_rfl) (by simp) ?_
      refine AllReadyH.cons rfl (fun K hK => ?_) AllReadyH.nil
      go_simp
      refine (count_ok (h.drew 1) hp hb hm HD.out hn).mono ?_
      rintro e w1 ⟨rfl, hR1, hg1⟩
      have hX1 : w1.cell? ⟨X, 0, none⟩ = some (.pointer (some ⟨B, 0, none⟩)) := hg1.cell hX (by simpa using hXB)
      have hY1 : w1.cell? ⟨Y, 0, none⟩ = some (.int .i64 most) := hg1.cell hY (by simpa using hYB)
      refine hK.out _ _ ⟨hX1, hY1⟩ (fun hHeld => ?_)
      refine wpAnyH_ready (rs := [4]) (by kernel_rfl) (by simp) ?_
      refine AllReadyH.cons rfl (fun K hK => ?_) AllReadyH.nil
      go_simp
      refine (take_short hR1 (by omega) (by omega) hb (by omega)).mono ?_
      rintro e w2 ⟨he, n2, rfl⟩
      unfold Gives at he
      subst he
      exact ⟨rfl, .inr ⟨by rw [HK.out]; decide, by rw [HK.out]; rfl, ⟨_, hR1.drew n2⟩, grown_trans (grown_drew w 1 _) (grown_trans hg1 (grown_drew _ _ _))⟩⟩
  · have HK : Hid (textK b p most.toNat = numK b p most.toNat 23) := (show textK b p most.toNat = _ by unfold textK; rw [if_pos hk])
    go_enter Try.func75, Try.ntmps75
    go_wp2_with fail
    refine wp_region_held_drew (S := fun w' => w'.cell? ⟨X, 0, none⟩ = some (.pointer (some ⟨B, 0, none⟩)) ∧ w'.cell? ⟨Y, 0, none⟩ = some (.int .i64 most)) (by kernel_rfl) ⟨hX, hY⟩ (fun hHeld => ?_)
    refine wpAnyH_take (i := 0) (v := .pointer (some ⟨B, 0, none⟩)) rfl (by kernel_rfl) (by kernel_rfl) (by kernel_rfl) (fun _ _ _ h => h) (Or.inl ⟨by rfl, fun w1 hSw => by have hS1 := hSw.1; clear hHeld; go_simp⟩) hHeld ?_
    simp only [Act.put, List.setIfInBounds_toArray]
    refine wpAnyH_take (i := 1) (v := .pointer (some ⟨B, 0, none⟩)) rfl (by kernel_rfl) (by kernel_rfl) (by kernel_rfl) (fun _ _ _ h => h) (Or.inl ⟨by rfl, fun w1 hSw => by have hS1 := hSw.1; clear hHeld; go_simp⟩) hHeld ?_
    simp only [Act.put]
    refine wpAnyH_take (i := 2) (v := .int .i64 most) rfl (by kernel_rfl) (by kernel_rfl) (by kernel_rfl) (fun _ _ _ h => h) (Or.inl ⟨by rfl, fun w1 hSw => by have hS1 := hSw.2; clear hHeld; go_simp⟩) hHeld ?_
    simp only [Act.put]
    refine wpAnyH_ready (rs := [3]) (by kernel_rfl) (by simp) ?_
    refine AllReadyH.cons rfl (fun K hK => ?_) AllReadyH.nil
    go_simp
    refine (count_no (h.drew 1) hp hb hm hk).mono ?_
    rintro e w1 ⟨he, ⟨q1, hR1⟩, hg1⟩
    unfold Gives at he
    subst he
    exact ⟨rfl, .inr ⟨by rw [HK.out]; exact hk, by rw [HK.out]; rfl, ⟨_, hR1⟩, grown_trans (grown_drew w 1 _) hg1⟩⟩
end Go.Proofs.Ytlgcimfbhjidgaa
end

section
namespace Go.Proofs.Ytlgcimfbhjidgaa
open Go.RowKit

theorem FPost.back {w w2 : World} {B : Nat} {b : ByteArray} {p : Int} {A Z : Value} {q k : Nat} {e : Ending} {w' : World} (hb : Below w.heap.size w w2) (h : FPost w2 B b p A Z q k e w') : FPost w B b p A Z q k e w' :=
  ⟨h.ok, h.no, grown_trans (grown_below hb _) h.grown⟩
theorem below_two (w : World) (o o' : Obj) : Below w.heap.size w ((w.alloc o).alloc o') := ((Below.refl _ _).alloc (Nat.le_refl _) _).alloc (by simp) _
theorem two_X (w : World) (v : Value) (t : TypeId) (o : Obj) : ((w.alloc (.cells #[v] t)).alloc o).cell? ⟨w.heap.size, 0, none⟩ = some v := by
  rw [World.cell?_alloc_past _ _ _ (by simp), World.cell?_alloc_at _ _ _ _ rfl]; rfl
theorem two_Y (w : World) (v : Value) (t : TypeId) (o : Obj) : ((w.alloc o).alloc (.cells #[v] t)).cell? ⟨w.heap.size + 1, 0, none⟩ = some v := by
  rw [World.cell?_alloc_at _ _ _ _ (by simp)]; rfl
theorem one_X (w : World) (v : Value) (t : TypeId) : (w.alloc (.cells #[v] t)).cell? ⟨w.heap.size, 0, none⟩ = some v := by
  rw [World.cell?_alloc_at _ _ _ _ rfl]; rfl

theorem run_rnum (X Y : Nat) (w1 : World) : (callFunc 43 #[.pointer (some ⟨X, 0, none⟩), .pointer (some ⟨Y, 0, none⟩)]).run Try.prog w1 = .ok (.enter 43 #[.pointer (some ⟨X, 0, none⟩), .pointer (some ⟨Y, 0, none⟩)]) w1 := by kernel_rfl
set_option maxHeartbeats 400000 in
theorem rnum_any {w : World} {B p : Nat} {b : ByteArray} {most : Nat} (h : Rd w B b p 0) (hp : p ≤ b.size) (hb : b.size ≤ 140737488351232) :
    Calls Try.prog 31 #[.pointer (some ⟨B, 0, none⟩), .int .u64 (most : Int)] w (FPost w B b p (.int .u64 (numV b p : Int)) (.int .u64 0) (numQ b p) (numK b p most 21)) := by
  have hmf : ∀ (fn : Fn) (first cap : Array Value) (w : World), (Instr.makeFunc fn first cap).run Try.prog w = .ok (.func fn first cap) w := fun _ _ _ _ => rfl
  have hlt := h.lt
  have HF : Hid (Calls Try.prog 42 #[.pointer (some ⟨B, 0, none⟩), .func (.func 43) #[] #[.pointer (some ⟨w.heap.size, 0, none⟩), .pointer (some ⟨w.heap.size + 1, 0, none⟩)]] ((w.alloc (.cells #[.pointer (some ⟨B, 0, none⟩)] 45)).alloc (.cells #[.int .u64 (most : Int)] 27))
      (FPost ((w.alloc (.cells #[.pointer (some ⟨B, 0, none⟩)] 45)).alloc (.cells #[.int .u64 (most : Int)] 27)) B b p (.int .u64 (numV b p : Int)) (.int .u64 0) (numQ b p) (numK b p most 21))) :=
    faceU ((h.alloc _).alloc _) _ _ _ _ _ (run_rnum _ _) (fun w1 hbel hR => num1_any hR hp hb ((hbel.cell (by simp; omega)).trans (two_X w _ _ _)) ((hbel.cell (by simp)).trans (two_Y w _ _ _)))
  go_enter Try.func31, Try.ntmps31
  go_wp2_with fail
  refine HF.out.mono ?_
  intro e w' hF
  by_cases hk : numK b p most 21 = 0
  · obtain ⟨rfl, hR⟩ := hF.ok hk
    have HP : Hid (FPost w B b p (.int .u64 (numV b p : Int)) (.int .u64 0) (numQ b p) (numK b p most 21) (.returned (.int .u64 (numV b p : Int))) w') := hF.back (below_two _ _ _)
    clear hF hk hR
    go_wp2_with fail
    go_ret
    exact HP.out
  · obtain ⟨rfl, hR⟩ := hF.no hk
    have HP : Hid (FPost w B b p (.int .u64 (numV b p : Int)) (.int .u64 0) (numQ b p) (numK b p most 21) (.returned (.int .u64 0)) w') := hF.back (below_two _ _ _)
    clear hF hk hR
    go_wp2_with fail
    go_ret
    exact HP.out
set_option maxHeartbeats 400000 in
theorem rnum_dead {w : World} {B : Nat} {b : ByteArray} {p f : Int} {most : Nat} (h : Rd w B b p f) (hf : f ≠ 0) :
    Calls Try.prog 31 #[.pointer (some ⟨B, 0, none⟩), .int .u64 (most : Int)] w fun e w' => e = .returned (.int .u64 0) ∧ Below w.heap.size w w' := by
  have hmf : ∀ (fn : Fn) (first cap : Array Value) (w : World), (Instr.makeFunc fn first cap).run Try.prog w = .ok (.func fn first cap) w := fun _ _ _ _ => rfl
  go_enter Try.func31, Try.ntmps31
  go_wp2_with fail
  refine (faceU_dead ((h.alloc _).alloc _) hf _ _).mono ?_
  rintro e w' ⟨rfl, hb1⟩
  go_wp2_with fail
  go_ret
  exact ⟨rfl, (below_two _ _ _).trans (hb1.mono (by simp; omega))⟩

theorem run_rtext (X Y : Nat) (w1 : World) : (callFunc 75 #[.pointer (some ⟨X, 0, none⟩), .pointer (some ⟨Y, 0, none⟩)]).run Try.prog w1 = .ok (.enter 75 #[.pointer (some ⟨X, 0, none⟩), .pointer (some ⟨Y, 0, none⟩)]) w1 := by kernel_rfl
set_option maxHeartbeats 400000 in
theorem rtext_any {w : World} {B p : Nat} {b : ByteArray} {most : Int} (hm : most ≤ 9223372036854775807) (h : Rd w B b p 0) (hp : p ≤ b.size) (hb : b.size ≤ 140737488351232) :
    Calls Try.prog 71 #[.pointer (some ⟨B, 0, none⟩), .int .i64 most] w (FPost w B b p (.string (textV b p)) (.string ⟨#[]⟩) (numQ b p + numV b p) (textK b p most.toNat)) := by
  have hmf : ∀ (fn : Fn) (first cap : Array Value) (w : World), (Instr.makeFunc fn first cap).run Try.prog w = .ok (.func fn first cap) w := fun _ _ _ _ => rfl
  have hlt := h.lt
  have HF : Hid (Calls Try.prog 74 #[.pointer (some ⟨B, 0, none⟩), .func (.func 75) #[] #[.pointer (some ⟨w.heap.size, 0, none⟩), .pointer (some ⟨w.heap.size + 1, 0, none⟩)]] ((w.alloc (.cells #[.pointer (some ⟨B, 0, none⟩)] 45)).alloc (.cells #[.int .i64 most] 3))
      (FPost ((w.alloc (.cells #[.pointer (some ⟨B, 0, none⟩)] 45)).alloc (.cells #[.int .i64 most] 3)) B b p (.string (textV b p)) (.string ⟨#[]⟩) (numQ b p + numV b p) (textK b p most.toNat))) :=
    faceS ((h.alloc _).alloc _) _ _ _ _ _ (run_rtext _ _) (fun w1 hbel hR => text1_any hR hp hb hm ((hbel.cell (by simp; omega)).trans (two_X w _ _ _)) ((hbel.cell (by simp)).trans (two_Y w _ _ _)) (by omega) (by omega))
  go_enter Try.func71, Try.ntmps71
  go_wp2_with fail
  refine HF.out.mono ?_
  intro e w' hF
  by_cases hk : textK b p most.toNat = 0
  · obtain ⟨rfl, hR⟩ := hF.ok hk
    have HP : Hid (FPost w B b p (.string (textV b p)) (.string ⟨#[]⟩) (numQ b p + numV b p) (textK b p most.toNat) (.returned (.string (textV b p))) w') := hF.back (below_two _ _ _)
    clear hF hk hR
    go_wp2_with fail
    go_ret
    exact HP.out
  · obtain ⟨rfl, hR⟩ := hF.no hk
    have HP : Hid (FPost w B b p (.string (textV b p)) (.string ⟨#[]⟩) (numQ b p + numV b p) (textK b p most.toNat) (.returned (.string ⟨#[]⟩)) w') := hF.back (below_two _ _ _)
    clear hF hk hR
    go_wp2_with fail
    go_ret
    exact HP.out
set_option maxHeartbeats 400000 in
theorem rtext_dead {w : World} {B : Nat} {b : ByteArray} {p f : Int} {most : Int} (h : Rd w B b p f) (hf : f ≠ 0) :
    Calls Try.prog 71 #[.pointer (some ⟨B, 0, none⟩), .int .i64 most] w fun e w' => e = .returned (.string ⟨#[]⟩) ∧ Below w.heap.size w w' := by
  have hmf : ∀ (fn : Fn) (first cap : Array Value) (w : World), (Instr.makeFunc fn first cap).run Try.prog w = .ok (.func fn first cap) w := fun _ _ _ _ => rfl
  go_enter Try.func71, Try.ntmps71
  go_wp2_with fail
  refine (faceS_dead ((h.alloc _).alloc _) hf _ _).mono ?_
  rintro e w' ⟨rfl, hb1⟩
  go_wp2_with fail
  go_ret
  exact ⟨rfl, (below_two _ _ _).trans (hb1.mono (by simp; omega))⟩

theorem run_rbits (X : Nat) (w1 : World) : (callFunc 72 #[.pointer (some ⟨X, 0, none⟩)]).run Try.prog w1 = .ok (.enter 72 #[.pointer (some ⟨X, 0, none⟩)]) w1 := by kernel_rfl
set_option maxHeartbeats 400000 in
theorem rbits_any {w : World} {B p : Nat} {b : ByteArray} (h : Rd w B b p 0) (hp : p ≤ b.size) (hb : b.size ≤ 140737488351232) :
    Calls Try.prog 69 #[.pointer (some ⟨B, 0, none⟩)] w (FPost w B b p (.int .u64 (bitsV b p : Int)) (.int .u64 0) (p + 8) (bitsK b p)) := by
  have hmf : ∀ (fn : Fn) (first cap : Array Value) (w : World), (Instr.makeFunc fn first cap).run Try.prog w = .ok (.func fn first cap) w := fun _ _ _ _ => rfl
  have hlt := h.lt
  have HF : Hid (Calls Try.prog 42 #[.pointer (some ⟨B, 0, none⟩), .func (.func 72) #[] #[.pointer (some ⟨w.heap.size, 0, none⟩)]] (w.alloc (.cells #[.pointer (some ⟨B, 0, none⟩)] 45))
      (FPost (w.alloc (.cells #[.pointer (some ⟨B, 0, none⟩)] 45)) B b p (.int .u64 (bitsV b p : Int)) (.int .u64 0) (p + 8) (bitsK b p))) :=
    faceU (h.alloc _) _ _ _ _ _ (run_rbits _) (fun w1 hbel hR => bits1_any hR hp hb ((hbel.cell (by simp)).trans (one_X w _ _)))
  go_enter Try.func69, Try.ntmps69
  go_wp2_with fail
  refine HF.out.mono ?_
  intro e w' hF
  by_cases hk : bitsK b p = 0
  · obtain ⟨rfl, hR⟩ := hF.ok hk
    have HP : Hid (FPost w B b p (.int .u64 (bitsV b p : Int)) (.int .u64 0) (p + 8) (bitsK b p) (.returned (.int .u64 (bitsV b p : Int))) w') := hF.back (below_alloc _ _)
    clear hF hk hR
    go_wp2_with fail
    go_ret
    exact HP.out
  · obtain ⟨rfl, hR⟩ := hF.no hk
    have HP : Hid (FPost w B b p (.int .u64 (bitsV b p : Int)) (.int .u64 0) (p + 8) (bitsK b p) (.returned (.int .u64 0)) w') := hF.back (below_alloc _ _)
    clear hF hk hR
    go_wp2_with fail
    go_ret
    exact HP.out
set_option maxHeartbeats 400000 in
theorem rbits_dead {w : World} {B : Nat} {b : ByteArray} {p f : Int} (h : Rd w B b p f) (hf : f ≠ 0) :
    Calls Try.prog 69 #[.pointer (some ⟨B, 0, none⟩)] w fun e w' => e = .returned (.int .u64 0) ∧ Below w.heap.size w w' := by
  have hmf : ∀ (fn : Fn) (first cap : Array Value) (w : World), (Instr.makeFunc fn first cap).run Try.prog w = .ok (.func fn first cap) w := fun _ _ _ _ => rfl
  go_enter Try.func69, Try.ntmps69
  go_wp2_with fail
  refine (faceU_dead (h.alloc _) hf _ _).mono ?_
  rintro e w' ⟨rfl, hb1⟩
  go_wp2_with fail
  go_ret
  exact ⟨rfl, (below_alloc _ _).trans (hb1.mono (by simp))⟩
set_option maxHeartbeats 400000 in
theorem read_any (b : ByteArray) (w : World) :
    Calls Try.prog 16 #[.string b] w fun e w' => e = .returned (.pointer (some ⟨w.heap.size, 0, none⟩)) ∧ Rd w' w.heap.size b 0 0 ∧ Below w.heap.size w w' := by
  go_enter Try.func16, Try.ntmps16
  go_wp2
  go_ret
  exact ⟨rfl, heap_alloc_new w _, below_alloc _ _⟩
end Go.Proofs.Ytlgcimfbhjidgaa
end

section
namespace Go.Proofs.Ytlgcimfbhjidgaa
open Go.RowKit

/-- cells of bytes -/
def bc (l : List UInt8) : List Value := l.map fun c => Value.int .u8 (c.toNat : Int)
theorem bc_len (l : List UInt8) : (bc l).length = l.length := by simp [bc]
theorem bc_append (l m : List UInt8) : bc (l ++ m) = bc l ++ bc m := by simp [bc]
theorem nil_str (w : World) : (convert 87 9 (.slice none 0 0)).run Try.prog w = .ok (.string ⟨#[]⟩) w := by
  rw [run_convert_bytes_string w _ _ _ none 0 0 Try.underlying87 Try.underlying5 Try.underlying9]
  simp [Conv.bytesToString]
  rfl
/-- 'string(b)' of a slice of the call's own -/
theorem own_str {w : World} {base : Nat} {v : Value} {l : List UInt8} (h : w.ownsRow base 5 1 v l.length (bc l)) : (convert 87 9 v).run Try.prog w = .ok (.string ⟨l.toArray⟩) w := by
  rcases h.2 with ⟨rfl, hn⟩ | ⟨g, cap, cur, rfl, hb, hg, hc, hm, hs, ht⟩
  · have : l = [] := List.length_eq_zero_iff.1 hn
    subst this
    exact nil_str w
  · refine run_convert_bytes_back w _ _ _ ⟨g, 0, none⟩ cap l Try.underlying87 Try.underlying5 Try.underlying9 ?_
    intro j hj
    refine World.ownsRow.cells (v := .slice (some ⟨g, 0, none⟩) l.length cap) h rfl j _ ?_
    simp [bc, hj]
theorem Try.infoB : (Try.prog.info? 5).map (fun i => (i.zero, i.size, i.bytes)) = some (some (.int .u8 0), 1, 1) := by kernel_rfl

namespace Pk
theorem enc_len (k : Nat) : ∀ n, n < 128 ^ (k + 1) → (enc n).length ≤ k + 1 := by
  induction k with
  | zero => intro n h; rw [enc_lt (by simpa using h)]; simp
  | succ k ih =>
    intro n h
    by_cases hn : n < 128
    · rw [enc_lt hn]; simp
    · rw [enc_ge hn, List.length_cons]
      have := ih (n / 128) (by rw [Nat.pow_succ] at h; omega)
      omega
theorem enc_ten {n : Nat} (h : n < 18446744073709551616) : (enc n).length ≤ 10 := by
  have e : (128 : Nat) ^ (9 + 1) = 1180591620717411303424 := by decide
  exact enc_len 9 n (by omega)
end Pk
theorem or7 (x : Nat) (h : x < 256) : x ||| 128 = x % 128 + 128 := by
  rcases Nat.lt_or_ge x 128 with h1 | h1
  · rw [Nat.or_comm, nat_join 7 128 x (by decide) (by omega)]; omega
  · obtain ⟨y, rfl⟩ : ∃ y, x = 128 + y := ⟨x - 128, by omega⟩
    have e : 128 + y = 128 ||| y := (nat_join 7 128 y (by decide) (by omega)).symm
    have e2 : (128 + y) ||| 128 = 128 + y := by rw [e, Nat.or_comm, ← Nat.or_assoc, Nat.or_self]
    rw [e2]; omega
theorem or128 (m : Nat) : bits .or .u8 (((m : Int) % 256)) 128 = (((m % 128 + 128 : Nat)) : Int) := by
  rw [show (m : Int) % 256 = ((m % 256 : Nat) : Int) by simp, show (128 : Int) = ((128 : Nat) : Int) from rfl, u8_or_nat _ _ (by omega) (by omega), or7 _ (by omega)]
  congr 1
  omega
theorem one_new (w : World) (v : Value) (t : TypeId) : ∀ j u, [v][j]? = some u → (w.alloc (.cells #[v] t)).cell? ((⟨w.heap.size, 0, none⟩ : Addr).add j) = some u := by
  intro j u hj
  match j, hj with
  | 0, hj => simp at hj; subst hj; simp [Addr.add]

theorem grow_below {B : Nat} {w wr w1 : World} {u : Value} {n : Nat} {xs : List Value} {e : TypeId} {sz : Nat} (hB : B ≤ w.heap.size) (hbel : Below B w wr) (hown : wr.ownsRow B e sz u n xs) (o : Obj) (hgrow : (wr.alloc o).grownBy w1 u.ownBlock) : Below B w w1 :=
  (hbel.alloc (Nat.le_trans hB hbel.size) o).grown hgrow (by have := hbel.size; simp; omega) (fun k hk => (hown.lt k hk).1)

set_option maxHeartbeats 800000 in
set_option maxRecDepth 8000 in
theorem pnum_any (n : Nat) (hn : n < 18446744073709551616) (w : World) :
    Calls Try.prog 46 #[.int .u64 (n : Int)] w fun e w' => e = .returned (.string ⟨(Pk.enc n).toArray⟩) ∧ Below w.heap.size w w' := by
  obtain ⟨i0, hi, hz0, hz1, hz2⟩ := info_parts Try.infoB
  go_enter Try.func46, Try.ntmps46
  go_wp2
  go_loopw [0, 3] (fun u v wr => ∃ (m : Nat) (pre : List UInt8), u = .int .u64 (m : Int) ∧ m ≤ n ∧ Hid (Pk.enc n = pre ++ Pk.enc m) ∧ wr.ownsRow w.heap.size 5 1 v pre.length (bc pre) ∧ Below w.heap.size w wr) (fun u _ _ => (intOf u).toNat)
  case atStart => exact ⟨n, [], rfl, Nat.le_refl _, rfl, World.ownsRow_nil _ _ _ _, Below.refl _ _⟩
  case round =>
    obtain ⟨m, pre, rfl, hm, HE, hown, hbel⟩ := hrel
    have hlen := Pk.enc_ten hn
    rw [HE.out, List.length_append] at hlen
    have hpos := Pk.enc_pos m
    by_cases h128 : m < 128
    · have b0 : decide ((128 : Int) ≤ (m : Int)) = false := by simp; omega
      have HN : Hid (bc (Pk.enc n) = bc pre ++ [.int .u8 (m : Int)]) := (show bc (Pk.enc n) = _ by
        rw [HE.out, bc_append, Pk.enc_lt h128]; simp only [bc, List.map_cons, List.map_nil]; rw [Pk.toNat_ofNat (by omega)])
      have HM : Hid (pre.length + 1 = (Pk.enc n).length) := (show pre.length + 1 = _ by rw [HE.out, List.length_append, Pk.enc_lt h128]; rfl)
      go_wp2_with (first
        | (at_builtin; refine wpList_append_own _ rfl _ _ 87 rfl w.heap.size 5 i0 (.int .u8 0) 1 1 Try.underlying87 hi hz0 hz1 hz2 rfl (by decide) _ _ _ rfl (hown.alloc _) ⟨wr.heap.size, 0, none⟩ 1 1 [.int .u8 (m : Int)] rfl rfl (one_new _ _ _) (by intro u hu; simp at hu; subst hu; rfl) (by unfold maxLen; omega) (by omega) (by have := hbel.size; simp; omega) ?_; intro v' w1 hown' hgrow hnil; clear hnil; have hcv : (convert 87 9 v').run Try.prog w1 = .ok (.string ⟨(Pk.enc n).toArray⟩) w1 := own_str (base := w.heap.size) (by rw [← HM.out, HN.out]; exact hown'); have hb1 : Below w.heap.size w w1 := grow_below (Nat.le_refl _) hbel hown _ hgrow; clear hown' hgrow hown hbel)
        | go_in)
      go_ret
      exact ⟨rfl, hb1⟩
    · have b0 : decide ((128 : Int) ≤ (m : Int)) = true := by simp; omega
      have HE' : Hid (Pk.enc n = (pre ++ [UInt8.ofNat (m % 128 + 128)]) ++ Pk.enc (m / 128)) := (show Pk.enc n = _ by rw [HE.out, Pk.enc_ge h128]; simp)
      have HN : Hid (bc (pre ++ [UInt8.ofNat (m % 128 + 128)]) = bc pre ++ [.int .u8 (bits .or .u8 ((m : Int) % 256) 128)]) := (show bc _ = _ by
        rw [bc_append, or128]; simp only [bc, List.map_cons, List.map_nil]; rw [Pk.toNat_ofNat (by omega)])
      go_wp2_with (first
        | (at_builtin; refine wpList_append_own _ rfl _ _ 87 rfl w.heap.size 5 i0 (.int .u8 0) 1 1 Try.underlying87 hi hz0 hz1 hz2 rfl (by decide) _ _ _ rfl (hown.alloc _) ⟨wr.heap.size, 0, none⟩ 1 1 [.int .u8 (bits .or .u8 ((m : Int) % 256) 128)] rfl rfl (one_new _ _ _) (by intro u hu; simp at hu; subst hu; rfl) (by unfold maxLen; omega) (by omega) (by have := hbel.size; simp; omega) ?_; intro v' w1 hown' hgrow hnil; clear hnil; have HB1 : Hid (Below w.heap.size w w1) := grow_below (Nat.le_refl _) hbel hown _ hgrow)
        | go_in)
      refine ⟨⟨m / 128, pre ++ [UInt8.ofNat (m % 128 + 128)], by go_num, by omega, HE', ?_, HB1.out⟩, by simp [intOf]; omega⟩
      rw [HN.out, List.length_append]
      exact hown'
end Go.Proofs.Ytlgcimfbhjidgaa
end

section
namespace Go.Proofs.Ytlgcimfbhjidgaa
open Go.RowKit

namespace Pk
def big8 (n : Nat) : List UInt8 := [UInt8.ofNat (n / 72057594037927936 % 256), UInt8.ofNat (n / 281474976710656 % 256), UInt8.ofNat (n / 1099511627776 % 256), UInt8.ofNat (n / 4294967296 % 256), UInt8.ofNat (n / 16777216 % 256), UInt8.ofNat (n / 65536 % 256), UInt8.ofNat (n / 256 % 256), UInt8.ofNat (n % 256)]
end Pk

set_option maxHeartbeats 400000 in
theorem ptext_any (s : ByteArray) (hs : s.size ≤ 140737488351232) (w : World) :
    Calls Try.prog 91 #[.string s] w fun e w' => e = .returned (.string ((⟨(Pk.enc s.size).toArray⟩ : ByteArray) ++ s)) ∧ Below w.heap.size w w' := by
  have hlen := Pk.enc_ten (n := s.size) (by omega)
  have hadd : ∀ w1 : World, (Op.stringOp .add ⟨(Pk.enc s.size).toArray⟩ s).run Try.prog w1 = .ok (.string ((⟨(Pk.enc s.size).toArray⟩ : ByteArray) ++ s)) w1 := fun w1 =>
    run_string_add_sum w1 _ _ (by show (Pk.enc s.size).toArray.size + s.size ≤ _; simp; omega)
  generalize (⟨(Pk.enc s.size).toArray⟩ : ByteArray) ++ s = t at *
  go_enter Try.func91, Try.ntmps91
  go_wp2_with (go_at_call 46; refine (pnum_any s.size (by omega) _).mono ?_; rintro e w' ⟨rfl, hb⟩)
  go_ret
  exact ⟨rfl, hb⟩

/-- the eight bytes as the walk lays them -/
theorem big8_cell (n : Nat) (hn : n < 18446744073709551616) (w : World) : ∀ j (hj : j < (Pk.big8 n).length), (w.alloc (.cells #[.int .u8 ((n : Int) / 72057594037927936), .int .u8 ((n : Int) / 281474976710656 % 256), .int .u8 ((n : Int) / 1099511627776 % 256), .int .u8 ((n : Int) / 4294967296 % 256), .int .u8 ((n : Int) / 16777216 % 256), .int .u8 ((n : Int) / 65536 % 256), .int .u8 ((n : Int) / 256 % 256), .int .u8 ((n : Int) % 256)] 113)).cell? ((⟨w.heap.size, 0, none⟩ : Addr).add j) = some (.int .u8 ((Pk.big8 n)[j].toNat : Int)) := by
  intro j hj
  have hadd : (⟨w.heap.size, 0, none⟩ : Addr).add j = ⟨w.heap.size, j, none⟩ := by unfold Addr.add; split <;> simp_all
  rw [hadd, World.cell?_alloc_at _ _ _ _ rfl]
  have e : ∀ x : Nat, (UInt8.ofNat (x % 256)).toNat = x % 256 := fun x => Pk.toNat_ofNat (Nat.mod_lt _ (by decide))
  have h8 : j < 8 := hj
  match j, h8 with
  | 0, _ => show some (Value.int .u8 ((n : Int) / 72057594037927936)) = some (.int .u8 ((UInt8.ofNat (n / 72057594037927936 % 256)).toNat : Int)); rw [e]; congr 2; omega
  | 1, _ => show some (Value.int .u8 ((n : Int) / 281474976710656 % 256)) = some (.int .u8 ((UInt8.ofNat (n / 281474976710656 % 256)).toNat : Int)); rw [e]; congr 2
  | 2, _ => show some (Value.int .u8 ((n : Int) / 1099511627776 % 256)) = some (.int .u8 ((UInt8.ofNat (n / 1099511627776 % 256)).toNat : Int)); rw [e]; congr 2
  | 3, _ => show some (Value.int .u8 ((n : Int) / 4294967296 % 256)) = some (.int .u8 ((UInt8.ofNat (n / 4294967296 % 256)).toNat : Int)); rw [e]; congr 2
  | 4, _ => show some (Value.int .u8 ((n : Int) / 16777216 % 256)) = some (.int .u8 ((UInt8.ofNat (n / 16777216 % 256)).toNat : Int)); rw [e]; congr 2
  | 5, _ => show some (Value.int .u8 ((n : Int) / 65536 % 256)) = some (.int .u8 ((UInt8.ofNat (n / 65536 % 256)).toNat : Int)); rw [e]; congr 2
  | 6, _ => show some (Value.int .u8 ((n : Int) / 256 % 256)) = some (.int .u8 ((UInt8.ofNat (n / 256 % 256)).toNat : Int)); rw [e]; congr 2
  | 7, _ => show some (Value.int .u8 ((n : Int) % 256)) = some (.int .u8 ((UInt8.ofNat (n % 256)).toNat : Int)); rw [e]; congr 2

set_option maxHeartbeats 1600000 in
set_option maxRecDepth 8000 in
theorem pbits_any (n : Nat) (hn : n < 18446744073709551616) (w : World) :
    Calls Try.prog 90 #[.int .u64 (n : Int)] w fun e w' => e = .returned (.string ⟨(Pk.big8 n).toArray⟩) ∧ Below w.heap.size w w' := by
  have hcv := run_convert_bytes_back _ _ _ _ (⟨w.heap.size, 0, none⟩ : Addr) 8 (Pk.big8 n) Try.underlying87 Try.underlying5 Try.underlying9 (big8_cell n hn w)
  rw [show (Pk.big8 n).length = 8 from rfl] at hcv
  generalize (⟨(Pk.big8 n).toArray⟩ : ByteArray) = t at *
  go_enter Try.func90, Try.ntmps90
  go_wp2
  refine wp_loop_rounds 9 ?_
  rw [rounds_succ]; go_wp2
  rw [rounds_succ]; go_wp2
  rw [rounds_succ]; go_wp2
  rw [rounds_succ]; go_wp2
  rw [rounds_succ]; go_wp2
  rw [rounds_succ]; go_wp2
  rw [rounds_succ]; go_wp2
  rw [rounds_succ]; go_wp2
  rw [rounds_succ]; go_wp2
  go_ret
  exact ⟨rfl, below_alloc _ _⟩
end Go.Proofs.Ytlgcimfbhjidgaa
end

section
namespace Go.Proofs.Ytlgcimfbhjidgaa
open Go.RowKit

theorem enc_300 : Pk.enc 300 = [172, 2] := by
  rw [Pk.enc_ge (by decide), Pk.enc_lt (by decide)]; rfl
theorem enc_1 : Pk.enc 1 = [1] := by rw [Pk.enc_lt (by decide)]; rfl
theorem pnum_300 (w : World) : Calls Try.prog 46 #[.int .u64 300] w fun e w' => e = .returned (.string ⟨#[172, 2]⟩) ∧ Below w.heap.size w w' := by
  have := pnum_any 300 (by decide) w
  rw [enc_300] at this; exact this
theorem ptext_a (w : World) : Calls Try.prog 91 #[.string ⟨#[97]⟩] w fun e w' => e = .returned (.string ⟨#[1, 97]⟩) ∧ Below w.heap.size w w' := by
  have := ptext_any ⟨#[97]⟩ (by decide) w
  rw [show (⟨#[97]⟩ : ByteArray).size = 1 from rfl, enc_1] at this; exact this
theorem pbits_1 (w : World) : Calls Try.prog 90 #[.int .u64 1] w fun e w' => e = .returned (.string ⟨#[0, 0, 0, 0, 0, 0, 0, 1]⟩) ∧ Below w.heap.size w w' := pbits_any 1 (by decide) w

theorem extract_eq (b : ByteArray) (p n : Nat) : b.extract p (p + n) = ⟨((rest b p).take n).toArray⟩ := by
  apply ByteArray.ext
  apply Array.ext'
  rw [extract_list]
theorem rnum_300 {w : World} {B : Nat} (h : Rd w B ⟨#[172, 2, 1, 97]⟩ 0 0) : Calls Try.prog 31 #[.pointer (some ⟨B, 0, none⟩), .int .u64 300] w fun e w' => e = .returned (.int .u64 300) ∧ Rd w' B ⟨#[172, 2, 1, 97]⟩ 2 0 ∧ w.grownBy w' (some B) := by
  refine (rnum_any (p := 0) (most := 300) h (by decide) (by decide)).mono ?_
  intro e w' hF
  obtain ⟨rfl, hR⟩ := hF.ok (by decide)
  exact ⟨by rw [show numV ⟨#[172, 2, 1, 97]⟩ 0 = 300 by decide]; rfl, by rw [show numQ ⟨#[172, 2, 1, 97]⟩ 0 = 2 by decide] at hR; exact hR, hF.grown⟩
theorem rtext_a {w : World} {B : Nat} (h : Rd w B ⟨#[172, 2, 1, 97]⟩ 2 0) : Calls Try.prog 71 #[.pointer (some ⟨B, 0, none⟩), .int .i64 1] w fun e w' => e = .returned (.string ⟨#[97]⟩) ∧ Rd w' B ⟨#[172, 2, 1, 97]⟩ 4 0 ∧ w.grownBy w' (some B) := by
  refine (rtext_any (p := 2) (most := 1) (by decide) h (by decide) (by decide)).mono ?_
  intro e w' hF
  have hv : textV ⟨#[172, 2, 1, 97]⟩ 2 = ⟨#[97]⟩ := by
    unfold textV
    rw [extract_eq, show numQ ⟨#[172, 2, 1, 97]⟩ 2 = 3 by decide, show numV ⟨#[172, 2, 1, 97]⟩ 2 = 1 by decide]; rfl
  obtain ⟨rfl, hR⟩ := hF.ok (by decide)
  exact ⟨by rw [hv], by rw [show numQ ⟨#[172, 2, 1, 97]⟩ 2 + numV ⟨#[172, 2, 1, 97]⟩ 2 = 4 by decide] at hR; exact hR, hF.grown⟩
theorem rnum_5 {w : World} {B : Nat} (h : Rd w B ⟨#[5]⟩ 0 0) : Calls Try.prog 31 #[.pointer (some ⟨B, 0, none⟩), .int .u64 4] w fun e w' => e = .returned (.int .u64 0) ∧ Rd w' B ⟨#[5]⟩ 0 21 ∧ w.grownBy w' (some B) := by
  refine (rnum_any (p := 0) (most := 4) h (by decide) (by decide)).mono ?_
  intro e w' hF
  obtain ⟨rfl, hR⟩ := hF.no (by decide)
  exact ⟨rfl, by rw [show numK ⟨#[5]⟩ 0 4 21 = 21 by decide] at hR; exact hR, hF.grown⟩

theorem below_of_grown {w w1 w2 : World} {B : Nat} (h : Below w.heap.size w w1) (hB : w.heap.size ≤ B) (g : w1.grownBy w2 (some B)) : Below w.heap.size w w2 :=
  h.trans ⟨g.os, g.tape, g.output, g.size, fun k hk => g.block k (Nat.lt_of_lt_of_le hk h.size) (by simp; omega)⟩
theorem below_tr {a b c : World} (h : Below a.heap.size a b) (k : Below b.heap.size b c) : Below a.heap.size a c := h.trans (k.mono h.size)
theorem below_dn {a b : World} (h : Below a.heap.size a b) (n : Nat) : Below a.heap.size a (b.drewN n) := below_drewN h n

end Go.Proofs.Ytlgcimfbhjidgaa
end

section
namespace Go.Proofs.Ytlgcimfbhjidgaa
open Go.RowKit

end Go.Proofs.Ytlgcimfbhjidgaa
end

section
namespace Go.Proofs.Ytlgcimfbhjidgaa
open Go.RowKit

theorem take_add' (l : List UInt8) (p n : Nat) : l.take (p + n) = l.take p ++ (l.drop p).take n := by rw [List.take_add]
theorem numK_zero {b : ByteArray} {p most above : Nat} (ha : above ≠ 0) (h : numK b p most above = 0) : Pk.dec 0 0 (rest b p) = (0, numV b p, numQ b p - p) ∧ numV b p ≤ most ∧ p < numQ b p := by
  unfold numK at h
  by_cases h1 : (Pk.dec 0 0 (rest b p)).1 = 0
  · rw [if_neg (by simpa using h1)] at h
    have hD : Pk.dec 0 0 (rest b p) = (0, (Pk.dec 0 0 (rest b p)).2.1, (Pk.dec 0 0 (rest b p)).2.2) := Prod.ext h1 rfl
    obtain ⟨l1, l2⟩ := Pk.dec_le _ _ _ _ _ hD (by decide)
    have hmost : ¬ most < (Pk.dec 0 0 (rest b p)).2.1 := fun hh => by rw [if_pos hh] at h; exact ha h
    unfold numV numQ
    refine ⟨?_, by omega, by omega⟩
    rw [show p + (Pk.dec 0 0 (rest b p)).2.2 - p = (Pk.dec 0 0 (rest b p)).2.2 by omega]
    exact hD
  · rw [if_pos (by simpa using h1)] at h
    exact absurd h h1
/-- what is read of a number is its form -/
theorem num_form {b : ByteArray} {p most above : Nat} (hp : p ≤ b.size) (ha : above ≠ 0) (h : numK b p most above = 0) :
    numQ b p = p + (Pk.enc (numV b p)).length ∧ numQ b p ≤ b.size ∧ numV b p ≤ most ∧ numV b p < 18446744073709551616 ∧ b.data.toList.take (numQ b p) = b.data.toList.take p ++ Pk.enc (numV b p) := by
  obtain ⟨hD, hm, hq⟩ := numK_zero ha h
  obtain ⟨x, hx, hlt, hl, _, r, hr⟩ := Pk.dec_form _ _ _ _ _ (by decide) hD
  simp only [Nat.pow_zero, Nat.mul_one, Nat.zero_add] at hx hlt hl
  subst hx
  have hle := congrArg List.length hr
  rw [rest_len, List.length_append] at hle
  have hq' : numQ b p = p + (Pk.enc (numV b p)).length := by omega
  refine ⟨hq', by omega, hm, hlt, ?_⟩
  rw [hq', take_add']
  congr 1
  have : (b.data.toList.drop p) = Pk.enc (numV b p) ++ r := hr
  rw [this, List.take_left']
  rfl

namespace Pk
theorem big8_fold8 (l : List UInt8) (h : l.length = 8) : big8 (fold8 l) = l := by
  match l, h with
  | [a, b, c, d, e, f, g, i], _ =>
    have ha := a.toNat_lt; have hb := b.toNat_lt; have hc := c.toNat_lt; have hd := d.toNat_lt; have he := e.toNat_lt; have hf := f.toNat_lt; have hg := g.toNat_lt; have hi := i.toNat_lt
    have hx : fold8 [a, b, c, d, e, f, g, i] = ((((((a.toNat * 256 + b.toNat) * 256 + c.toNat) * 256 + d.toNat) * 256 + e.toNat) * 256 + f.toNat) * 256 + g.toNat) * 256 + i.toNat := by simp [fold8]
    have key : ∀ (x : Nat) (u : UInt8), x % 256 = u.toNat → UInt8.ofNat (x % 256) = u := fun x u hu => by rw [hu]; simp
    unfold big8
    rw [hx]
    congr 1
    · exact key _ _ (by omega)
    congr 1
    · exact key _ _ (by omega)
    congr 1
    · exact key _ _ (by omega)
    congr 1
    · exact key _ _ (by omega)
    congr 1
    · exact key _ _ (by omega)
    congr 1
    · exact key _ _ (by omega)
    congr 1
    · exact key _ _ (by omega)
    congr 1
    · exact key _ _ (by omega)
theorem fold8_big8 (n : Nat) (h : n < 18446744073709551616) : fold8 (big8 n) = n := by
  have e : ∀ x : Nat, (UInt8.ofNat (x % 256)).toNat = x % 256 := fun x => toNat_ofNat (Nat.mod_lt _ (by decide))
  simp only [fold8, big8, List.foldl_cons, List.foldl_nil, e]
  omega
end Pk
theorem bits_form {b : ByteArray} {p : Nat} (h : bitsK b p = 0) : p + 8 ≤ b.size ∧ bitsV b p < 18446744073709551616 ∧ (Pk.big8 (bitsV b p)).length = 8 ∧ b.data.toList.take (p + 8) = b.data.toList.take p ++ Pk.big8 (bitsV b p) := by
  have hs : p + 8 ≤ b.size := by
    unfold bitsK at h
    rcases Nat.lt_or_ge b.size (p + 8) with h1 | h1
    · rw [if_pos h1] at h; cases h
    · exact h1
  have hl : ((rest b p).take 8).length = 8 := by rw [List.length_take, rest_len]; omega
  refine ⟨hs, ?_, rfl, ?_⟩
  · have := Pk.fold8_lt ((rest b p).take 8) 8 (by omega)
    rw [List.take_of_length_le (by omega)] at this
    exact this
  · rw [take_add']
    congr 1
    unfold bitsV
    rw [Pk.big8_fold8 _ hl]
    rfl
theorem text_form {b : ByteArray} {p most : Nat} (hp : p ≤ b.size) (h : textK b p most = 0) :
    numQ b p + numV b p ≤ b.size ∧ (textV b p).size = numV b p ∧ (textV b p).size ≤ b.size ∧ numQ b p + numV b p = p + (Pk.enc (textV b p).size ++ (textV b p).data.toList).length ∧ b.data.toList.take (numQ b p + numV b p) = b.data.toList.take p ++ (Pk.enc (textV b p).size ++ (textV b p).data.toList) := by
  unfold textK at h
  by_cases h1 : numK b p most 23 = 0
  · rw [if_neg (by simpa using h1)] at h
    have hs : numQ b p + numV b p ≤ b.size := by
      rcases Nat.lt_or_ge b.size (numQ b p + numV b p) with h2 | h2
      · rw [if_pos h2] at h; cases h
      · exact h2
    obtain ⟨hq, hq2, _, _, hf⟩ := num_form hp (by decide) h1
    have hsz : (textV b p).size = numV b p := by unfold textV; exact extract_size b _ _ hs
    have hd : (textV b p).data.toList = (rest b (numQ b p)).take (numV b p) := by unfold textV; exact extract_list b _ _
    refine ⟨hs, hsz, by omega, ?_, ?_⟩
    · rw [hsz, hd, List.length_append, List.length_take, rest_len]; omega
    · rw [take_add', hf, hsz, hd, List.append_assoc]
      rfl
  · rw [if_pos h1] at h
    exact absurd h h1
/-- the first bytes of a string -/
theorem ext_take (b : ByteArray) (q : Nat) : b.extract 0 q = ⟨(b.data.toList.take q).toArray⟩ := by
  have := extract_eq b 0 q
  rw [Nat.zero_add] at this
  rw [this]; rfl
theorem own_pre {w : World} {base : Nat} {v : Value} {b : ByteArray} {q : Nat} (hq : q ≤ b.size) (h : w.ownsRow base 5 1 v q (bc (b.data.toList.take q))) : (convert 87 9 v).run Try.prog w = .ok (.string (b.extract 0 q)) w := by
  have hl : (b.data.toList.take q).length = q := by rw [List.length_take]; have : b.data.toList.length = b.size := rfl; omega
  rw [ext_take]
  refine own_str (base := base) ?_
  rw [hl]; exact h
theorem strCells_bc (s : ByteArray) : Lib.strCells s = bc s.data.toList := rfl
/-- a row that is owned and is not nil -/
theorem own_shape {w : World} {base e sz n : Nat} {v : Value} {xs : List Value} (h : w.ownsRow base e sz v n xs) (hn : v ≠ .slice none 0 0) : ∃ g cap, v = .slice (some ⟨g, 0, none⟩) n cap ∧ base ≤ g := by
  rcases h.2 with ⟨h1, _⟩ | ⟨g, cap, cur, h1, hb, _⟩
  · exact absurd h1 hn
  · exact ⟨g, cap, h1, hb⟩
end Go.Proofs.Ytlgcimfbhjidgaa
end
