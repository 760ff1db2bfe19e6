import Derived.Test.YtkfnedhllfdghaaGreatDoorMgAM
import Derived.Deep.RegionHeld3
import Derived.Laws.IdiomStrings
import Derived.Laws.BytesString
import Derived.Laws.Concat
import Derived.Lib.AppendStr

section
namespace Go.Proofs.YtkfnedhllfdghaaGreatDoor
set_option maxRecDepth 20000
open Go.RowKit

theorem count_ok {w : World} {B p n m : Nat} {most : Int} {b : ByteArray} (h : Rd w B b p 0) (hp : p ≤ b.size) (hb : b.size ≤ 140737488351232) (hm : most ≤ 9223372036854775807)
    (hD : Pk.dec 0 0 (rest b p) = (0, n, m)) (hn : n ≤ most.toNat) :
    Calls Tryz.prog 256 #[.pointer (some ⟨B, 0, none⟩), .int .i64 most] w fun e w' => e = .returned (.int .i64 (n : Int)) ∧ Rd w' B b ((p + m : Nat) : Int) 0 ∧ w.grownBy w' (some B) := by
  refine (count_any h hp hb hm).mono ?_
  rintro e w' (⟨n', m', hD', hn', rfl, hR, hg⟩ | ⟨n', m', hD', hn', he, hR, hg⟩ | ⟨k, hk, hD', he, hR, hg⟩)
  · rw [hD] at hD'
    injection hD' with _ e2
    injection e2 with e3 e4
    subst e3; subst e4
    exact ⟨rfl, hR, hg⟩
  · rw [hD] at hD'
    injection hD' with _ e2
    injection e2 with e3 e4
    omega
  · rw [hD] at hD'
    injection hD' with e1 _
    exact absurd e1.symm hk
theorem count_no {w : World} {B p : Nat} {most : Int} {b : ByteArray} (h : Rd w B b p 0) (hp : p ≤ b.size) (hb : b.size ≤ 140737488351232) (hm : most ≤ 9223372036854775807) (hk : numK b p most.toNat 23 ≠ 0) :
    Calls Tryz.prog 256 #[.pointer (some ⟨B, 0, none⟩), .int .i64 most] w fun e w' => Gives e (numK b p most.toNat 23) ∧ (∃ q : Int, Rd w' B b q 0) ∧ w.grownBy w' (some B) := by
  refine (count_any h hp hb hm).mono ?_
  rintro e w' (⟨n', m', hD', hn', rfl, hR, hg⟩ | ⟨n', m', hD', hn', he, hR, hg⟩ | ⟨k, hk, hD', he, hR, hg⟩)
  · exact absurd (numK_ok hD' hn') hk
  · rw [numK_above hD' hn']; exact ⟨he, hR, hg⟩
  · rw [numK_bad hD' hk]; exact ⟨he, hR, hg⟩

def textK (b : ByteArray) (p most : Nat) : Nat := if numK b p most 23 ≠ 0 then numK b p most 23 else if b.size < numQ b p + numV b p then 20 else 0
def textV (b : ByteArray) (p : Nat) : ByteArray := b.extract (numQ b p) (numQ b p + numV b p)

theorem num_parts (b : ByteArray) (p most : Nat) (hp : p ≤ b.size) (h : numK b p most 23 = 0) : Pk.dec 0 0 (rest b p) = (0, numV b p, numQ b p - p) ∧ numV b p ≤ most ∧ p < numQ b p ∧ numQ b p ≤ b.size := by
  unfold numK at h
  by_cases h1 : (Pk.dec 0 0 (rest b p)).1 = 0
  · rw [if_neg (by simpa using h1)] at h
    have hD : Pk.dec 0 0 (rest b p) = (0, (Pk.dec 0 0 (rest b p)).2.1, (Pk.dec 0 0 (rest b p)).2.2) := Prod.ext h1 rfl
    obtain ⟨l1, l2⟩ := Pk.dec_le _ _ _ _ _ hD (by decide)
    rw [rest_len] at l2
    have hmost : ¬ most < (Pk.dec 0 0 (rest b p)).2.1 := fun hh => by rw [if_pos hh] at h; cases h
    unfold numV numQ
    refine ⟨?_, by omega, by omega, by omega⟩
    rw [show p + (Pk.dec 0 0 (rest b p)).2.2 - p = (Pk.dec 0 0 (rest b p)).2.2 by omega]
    exact hD
  · rw [if_pos (by simpa using h1)] at h
    exact absurd h h1

set_option maxHeartbeats 400000 in
set_option maxRecDepth 8000 in
theorem text1_any {w : World} {B X Y p : Nat} {most : Int} {b : ByteArray} (h : Rd w B b p 0) (hp : p ≤ b.size) (hb : b.size ≤ 140737488351232) (hm : most ≤ 9223372036854775807)
    (hX : w.cell? ⟨X, 0, none⟩ = some (.pointer (some ⟨B, 0, none⟩))) (hY : w.cell? ⟨Y, 0, none⟩ = some (.int .i64 most)) (hXB : X ≠ B) (hYB : Y ≠ B) :
    Calls Tryz.prog 254 #[.pointer (some ⟨X, 0, none⟩), .pointer (some ⟨Y, 0, none⟩)] w (RPost w B b (.string (textV b p)) (numQ b p + numV b p) (textK b p most.toNat)) := by
  by_cases hk : numK b p most.toNat 23 = 0
  · obtain ⟨hD, hn, hq1, hq2⟩ := num_parts b p most.toNat hp hk
    have HD : Hid (Pk.dec 0 0 (rest b p) = (0, numV b p, numQ b p - p)) := hD
    by_cases hs : numQ b p + numV b p ≤ b.size
    · have HK : Hid (textK b p most.toNat = 0) := (show textK b p most.toNat = 0 by unfold textK; rw [if_neg (by simpa using hk), if_neg (by omega)])
      have HT : Hid (textV b p = b.extract (numQ b p) (numQ b p + numV b p)) := (show textV b p = _ from rfl)
      generalize numQ b p = Q at *
      generalize numV b p = V at *
      generalize textV b p = T at *
      clear hk hD
      go_enter Tryz.func254, Tryz.ntmps254
      go_wp2_with fail
      go_region_held3 (fun w' => w'.cell? ⟨X, 0, none⟩ = some (.pointer (some ⟨B, 0, none⟩)) ∧ w'.cell? ⟨Y, 0, none⟩ = some (.int .i64 most)) (go_keep) (first
        | (go_at_call 256; refine (count_ok (h.drew _) hp hb hm HD.out hn).mono ?_; rintro e w1 ⟨rfl, hR1, hg1⟩; have hX1 : w1.cell? ⟨X, 0, none⟩ = some (.pointer (some ⟨B, 0, none⟩)) := hg1.cell hX (by simpa using hXB); have hY1 : w1.cell? ⟨Y, 0, none⟩ = some (.int .i64 most) := hg1.cell hY (by simpa using hYB))
        | (go_at_call 252; refine (take_any hR1 (by omega) (by omega) hb (by omega) (by omega)).mono ?_; rintro e w2 ⟨rfl, hR2, hg2⟩; have hX2 : w2.cell? ⟨X, 0, none⟩ = some (.pointer (some ⟨B, 0, none⟩)) := hg2.cell hX1 (by simpa using hXB); have hY2 : w2.cell? ⟨Y, 0, none⟩ = some (.int .i64 most) := hg2.cell hY1 (by simpa using hYB))
        | (go_at_call 255; refine (clone_any _ _ (by rw [ByteArray.size_extract]; omega)).mono ?_; rintro e w3 ⟨rfl, hb3⟩; have hX3 : w3.cell? ⟨X, 0, none⟩ = some (.pointer (some ⟨B, 0, none⟩)) := (hb3.cell (World.block_lt_of_cell? _ _ hX2)).trans hX2; have hY3 : w3.cell? ⟨Y, 0, none⟩ = some (.int .i64 most) := (hb3.cell (World.block_lt_of_cell? _ _ hY2)).trans hY2))
      go_wp2
      go_ret
      exact .inl ⟨HK.out, by rw [HT.out]; exact congrArg Ending.returned (congrArg Value.string (show b.extract ((p : Int) + ((Q - p : Nat) : Int)).toNat ((p : Int) + ((Q - p : Nat) : Int) + (V : Int)).toNat = _ by congr 1 <;> omega)),
        by have := hR2.below hb3 hR2.lt; rw [show ((Q + V : Nat) : Int) = ((p + (Q - p) : Nat) : Int) + (V : Int) by omega]; exact this, grown_trans (grown_drew w 1 _) (grown_trans hg1 (grown_trans hg2 (grown_below hb3 _)))⟩
    · have HK : Hid (textK b p most.toNat = 20) := (show textK b p most.toNat = 20 by unfold textK; rw [if_neg (by simpa using hk), if_pos (by omega)])
      generalize numQ b p = Q at *
      generalize numV b p = V at *
      clear hk hD
      go_enter Tryz.func254, Tryz.ntmps254
      go_wp2_with fail
      refine wp_region_held_drew (S := fun w' => w'.cell? ⟨X, 0, none⟩ = some (.pointer (some ⟨B, 0, none⟩)) ∧ w'.cell? ⟨Y, 0, none⟩ = some (.int .i64 most)) (by kernel_rfl) ⟨hX, hY⟩ (fun hHeld => ?_)
      refine wpAnyH_take (i := 0) (v := .pointer (some ⟨B, 0, none⟩)) rfl (by kernel_rfl) (by kernel_rfl) (by kernel_rfl) (fun _ _ _ h => h) (Or.inl ⟨by rfl, fun w1 hSw => by have hS1 := hSw.1; clear hHeld; go_simp⟩) hHeld ?_
      simp only [Act.put, List.setIfInBounds_toArray]
      refine wpAnyH_take (i := 1) (v := .pointer (some ⟨B, 0, none⟩)) rfl (by kernel_rfl) (by kernel_rfl) (by kernel_rfl) (fun _ _ _ h => h) (Or.inl ⟨by rfl, fun w1 hSw => by have hS1 := hSw.1; clear hHeld; go_simp⟩) hHeld ?_
      simp only [Act.put]
      refine wpAnyH_take (i := 2) (v := .int .i64 most) rfl (by kernel_rfl) (by kernel_rfl) (by kernel_rfl) (fun _ _ _ h => h) (Or.inl ⟨by rfl, fun w1 hSw => by have hS1 := hSw.2; clear hHeld; go_simp⟩) hHeld ?_
      simp only [Act.put]
      refine wpAnyH_ready (rs := [3]) (by kernel_rfl) (by simp) ?_
      refine AllReadyH.cons rfl (fun K hK => ?_) AllReadyH.nil
      go_simp
      refine (count_ok (h.drew 1) hp hb hm HD.out hn).mono ?_
      rintro e w1 ⟨rfl, hR1, hg1⟩
      have hX1 : w1.cell? ⟨X, 0, none⟩ = some (.pointer (some ⟨B, 0, none⟩)) := hg1.cell hX (by simpa using hXB)
      have hY1 : w1.cell? ⟨Y, 0, none⟩ = some (.int .i64 most) := hg1.cell hY (by simpa using hYB)
      refine hK.out _ _ ⟨hX1, hY1⟩ (fun hHeld => ?_)
      refine wpAnyH_ready (rs := [4]) (by kernel_rfl) (by simp) ?_
      refine AllReadyH.cons rfl (fun K hK => ?_) AllReadyH.nil
      go_simp
      refine (take_short hR1 (by omega) (by omega) hb (by omega)).mono ?_
      rintro e w2 ⟨he, n2, rfl⟩
      unfold Gives at he
      subst he
      exact ⟨rfl, .inr ⟨by rw [HK.out]; decide, by rw [HK.out]; rfl, ⟨_, hR1.drew n2⟩, grown_trans (grown_drew w 1 _) (grown_trans hg1 (grown_drew _ _ _))⟩⟩
  · have HK : Hid (textK b p most.toNat = numK b p most.toNat 23) := (show textK b p most.toNat = _ by unfold textK; rw [if_pos hk])
    go_enter Tryz.func254, Tryz.ntmps254
    go_wp2_with fail
    refine wp_region_held_drew (S := fun w' => w'.cell? ⟨X, 0, none⟩ = some (.pointer (some ⟨B, 0, none⟩)) ∧ w'.cell? ⟨Y, 0, none⟩ = some (.int .i64 most)) (by kernel_rfl) ⟨hX, hY⟩ (fun hHeld => ?_)
    refine wpAnyH_take (i := 0) (v := .pointer (some ⟨B, 0, none⟩)) rfl (by kernel_rfl) (by kernel_rfl) (by kernel_rfl) (fun _ _ _ h => h) (Or.inl ⟨by rfl, fun w1 hSw => by have hS1 := hSw.1; clear hHeld; go_simp⟩) hHeld ?_
    simp only [Act.put, List.setIfInBounds_toArray]
    refine wpAnyH_take (i := 1) (v := .pointer (some ⟨B, 0, none⟩)) rfl (by kernel_rfl) (by kernel_rfl) (by kernel_rfl) (fun _ _ _ h => h) (Or.inl ⟨by rfl, fun w1 hSw => by have hS1 := hSw.1; clear hHeld; go_simp⟩) hHeld ?_
    simp only [Act.put]
    refine wpAnyH_take (i := 2) (v := .int .i64 most) rfl (by kernel_rfl) (by kernel_rfl) (by kernel_rfl) (fun _ _ _ h => h) (Or.inl ⟨by rfl, fun w1 hSw => by have hS1 := hSw.2; clear hHeld; go_simp⟩) hHeld ?_
    simp only [Act.put]
    refine wpAnyH_ready (rs := [3]) (by kernel_rfl) (by simp) ?_
    refine AllReadyH.cons rfl (fun K hK => ?_) AllReadyH.nil
    go_simp
    refine (count_no (h.drew 1) hp hb hm hk).mono ?_
    rintro e w1 ⟨he, ⟨q1, hR1⟩, hg1⟩
    unfold Gives at he
    subst he
    exact ⟨rfl, .inr ⟨by rw [HK.out]; exact hk, by rw [HK.out]; rfl, ⟨_, hR1⟩, grown_trans (grown_drew w 1 _) hg1⟩⟩
end Go.Proofs.YtkfnedhllfdghaaGreatDoor
end

section
namespace Go.Proofs.YtkfnedhllfdghaaGreatDoor
set_option maxRecDepth 20000
open Go.RowKit

theorem FPost.back {w w2 : World} {B : Nat} {b : ByteArray} {p : Int} {A Z : Value} {q k : Nat} {e : Ending} {w' : World} (hb : Below w.heap.size w w2) (h : FPost w2 B b p A Z q k e w') : FPost w B b p A Z q k e w' :=
  ⟨h.ok, h.no, grown_trans (grown_below hb _) h.grown⟩
theorem below_two (w : World) (o o' : Obj) : Below w.heap.size w ((w.alloc o).alloc o') := ((Below.refl _ _).alloc (Nat.le_refl _) _).alloc (by simp) _
theorem two_X (w : World) (v : Value) (t : TypeId) (o : Obj) : ((w.alloc (.cells #[v] t)).alloc o).cell? ⟨w.heap.size, 0, none⟩ = some v := by
  rw [World.cell?_alloc_past _ _ _ (by simp), World.cell?_alloc_at _ _ _ _ rfl]; rfl
theorem two_Y (w : World) (v : Value) (t : TypeId) (o : Obj) : ((w.alloc o).alloc (.cells #[v] t)).cell? ⟨w.heap.size + 1, 0, none⟩ = some v := by
  rw [World.cell?_alloc_at _ _ _ _ (by simp)]; rfl
theorem one_X (w : World) (v : Value) (t : TypeId) : (w.alloc (.cells #[v] t)).cell? ⟨w.heap.size, 0, none⟩ = some v := by
  rw [World.cell?_alloc_at _ _ _ _ rfl]; rfl

theorem run_rnum (X Y : Nat) (w1 : World) : (callFunc 141 #[.pointer (some ⟨X, 0, none⟩), .pointer (some ⟨Y, 0, none⟩)]).run Tryz.prog w1 = .ok (.enter 141 #[.pointer (some ⟨X, 0, none⟩), .pointer (some ⟨Y, 0, none⟩)]) w1 := by kernel_rfl
set_option maxHeartbeats 400000 in
theorem rnum_any {w : World} {B p : Nat} {b : ByteArray} {most : Nat} (h : Rd w B b p 0) (hp : p ≤ b.size) (hb : b.size ≤ 140737488351232) :
    Calls Tryz.prog 100 #[.pointer (some ⟨B, 0, none⟩), .int .u64 (most : Int)] w (FPost w B b p (.int .u64 (numV b p : Int)) (.int .u64 0) (numQ b p) (numK b p most 21)) := by
  have hmf : ∀ (fn : Fn) (first cap : Array Value) (w : World), (Instr.makeFunc fn first cap).run Tryz.prog w = .ok (.func fn first cap) w := fun _ _ _ _ => rfl
  have hlt := h.lt
  have HF : Hid (Calls Tryz.prog 140 #[.pointer (some ⟨B, 0, none⟩), .func (.func 141) #[] #[.pointer (some ⟨w.heap.size, 0, none⟩), .pointer (some ⟨w.heap.size + 1, 0, none⟩)]] ((w.alloc (.cells #[.pointer (some ⟨B, 0, none⟩)] 171)).alloc (.cells #[.int .u64 (most : Int)] 44))
      (FPost ((w.alloc (.cells #[.pointer (some ⟨B, 0, none⟩)] 171)).alloc (.cells #[.int .u64 (most : Int)] 44)) B b p (.int .u64 (numV b p : Int)) (.int .u64 0) (numQ b p) (numK b p most 21))) :=
    faceU ((h.alloc _).alloc _) _ _ _ _ _ (run_rnum _ _) (fun w1 hbel hR => num1_any hR hp hb ((hbel.cell (by simp; omega)).trans (two_X w _ _ _)) ((hbel.cell (by simp)).trans (two_Y w _ _ _)))
  go_enter Tryz.func100, Tryz.ntmps100
  go_wp2_with fail
  refine HF.out.mono ?_
  intro e w' hF
  by_cases hk : numK b p most 21 = 0
  · obtain ⟨rfl, hR⟩ := hF.ok hk
    have HP : Hid (FPost w B b p (.int .u64 (numV b p : Int)) (.int .u64 0) (numQ b p) (numK b p most 21) (.returned (.int .u64 (numV b p : Int))) w') := hF.back (below_two _ _ _)
    clear hF hk hR
    go_wp2_with fail
    go_ret
    exact HP.out
  · obtain ⟨rfl, hR⟩ := hF.no hk
    have HP : Hid (FPost w B b p (.int .u64 (numV b p : Int)) (.int .u64 0) (numQ b p) (numK b p most 21) (.returned (.int .u64 0)) w') := hF.back (below_two _ _ _)
    clear hF hk hR
    go_wp2_with fail
    go_ret
    exact HP.out
set_option maxHeartbeats 400000 in
theorem rnum_dead {w : World} {B : Nat} {b : ByteArray} {p f : Int} {most : Nat} (h : Rd w B b p f) (hf : f ≠ 0) :
    Calls Tryz.prog 100 #[.pointer (some ⟨B, 0, none⟩), .int .u64 (most : Int)] w fun e w' => e = .returned (.int .u64 0) ∧ Below w.heap.size w w' := by
  have hmf : ∀ (fn : Fn) (first cap : Array Value) (w : World), (Instr.makeFunc fn first cap).run Tryz.prog w = .ok (.func fn first cap) w := fun _ _ _ _ => rfl
  go_enter Tryz.func100, Tryz.ntmps100
  go_wp2_with fail
  refine (faceU_dead ((h.alloc _).alloc _) hf _ _).mono ?_
  rintro e w' ⟨rfl, hb1⟩
  go_wp2_with fail
  go_ret
  exact ⟨rfl, (below_two _ _ _).trans (hb1.mono (by simp; omega))⟩

theorem run_rlist (X Y : Nat) (w1 : World) : (callFunc 258 #[.pointer (some ⟨X, 0, none⟩), .pointer (some ⟨Y, 0, none⟩)]).run Tryz.prog w1 = .ok (.enter 258 #[.pointer (some ⟨X, 0, none⟩), .pointer (some ⟨Y, 0, none⟩)]) w1 := by kernel_rfl
set_option maxHeartbeats 400000 in
theorem rlist_any {w : World} {B p : Nat} {b : ByteArray} {most : Int} (hm : most ≤ 9223372036854775807) (h : Rd w B b p 0) (hp : p ≤ b.size) (hb : b.size ≤ 140737488351232) :
    Calls Tryz.prog 219 #[.pointer (some ⟨B, 0, none⟩), .int .i64 most] w (FPost w B b p (.int .i64 (numV b p : Int)) (.int .i64 0) (numQ b p) (numK b p most.toNat 23)) := by
  have hmf : ∀ (fn : Fn) (first cap : Array Value) (w : World), (Instr.makeFunc fn first cap).run Tryz.prog w = .ok (.func fn first cap) w := fun _ _ _ _ => rfl
  have hlt := h.lt
  have HF : Hid (Calls Tryz.prog 257 #[.pointer (some ⟨B, 0, none⟩), .func (.func 258) #[] #[.pointer (some ⟨w.heap.size, 0, none⟩), .pointer (some ⟨w.heap.size + 1, 0, none⟩)]] ((w.alloc (.cells #[.pointer (some ⟨B, 0, none⟩)] 171)).alloc (.cells #[.int .i64 most] 3))
      (FPost ((w.alloc (.cells #[.pointer (some ⟨B, 0, none⟩)] 171)).alloc (.cells #[.int .i64 most] 3)) B b p (.int .i64 (numV b p : Int)) (.int .i64 0) (numQ b p) (numK b p most.toNat 23))) :=
    faceI ((h.alloc _).alloc _) _ _ _ _ _ (run_rlist _ _) (fun w1 hbel hR => list1_any hR hp hb hm ((hbel.cell (by simp; omega)).trans (two_X w _ _ _)) ((hbel.cell (by simp)).trans (two_Y w _ _ _)))
  go_enter Tryz.func219, Tryz.ntmps219
  go_wp2_with fail
  refine HF.out.mono ?_
  intro e w' hF
  by_cases hk : numK b p most.toNat 23 = 0
  · obtain ⟨rfl, hR⟩ := hF.ok hk
    have HP : Hid (FPost w B b p (.int .i64 (numV b p : Int)) (.int .i64 0) (numQ b p) (numK b p most.toNat 23) (.returned (.int .i64 (numV b p : Int))) w') := hF.back (below_two _ _ _)
    clear hF hk hR
    go_wp2_with fail
    go_ret
    exact HP.out
  · obtain ⟨rfl, hR⟩ := hF.no hk
    have HP : Hid (FPost w B b p (.int .i64 (numV b p : Int)) (.int .i64 0) (numQ b p) (numK b p most.toNat 23) (.returned (.int .i64 0)) w') := hF.back (below_two _ _ _)
    clear hF hk hR
    go_wp2_with fail
    go_ret
    exact HP.out
set_option maxHeartbeats 400000 in
theorem rlist_dead {w : World} {B : Nat} {b : ByteArray} {p f : Int} {most : Int} (h : Rd w B b p f) (hf : f ≠ 0) :
    Calls Tryz.prog 219 #[.pointer (some ⟨B, 0, none⟩), .int .i64 most] w fun e w' => e = .returned (.int .i64 0) ∧ Below w.heap.size w w' := by
  have hmf : ∀ (fn : Fn) (first cap : Array Value) (w : World), (Instr.makeFunc fn first cap).run Tryz.prog w = .ok (.func fn first cap) w := fun _ _ _ _ => rfl
  go_enter Tryz.func219, Tryz.ntmps219
  go_wp2_with fail
  refine (faceI_dead ((h.alloc _).alloc _) hf _ _).mono ?_
  rintro e w' ⟨rfl, hb1⟩
  go_wp2_with fail
  go_ret
  exact ⟨rfl, (below_two _ _ _).trans (hb1.mono (by simp; omega))⟩

theorem run_rtext (X Y : Nat) (w1 : World) : (callFunc 254 #[.pointer (some ⟨X, 0, none⟩), .pointer (some ⟨Y, 0, none⟩)]).run Tryz.prog w1 = .ok (.enter 254 #[.pointer (some ⟨X, 0, none⟩), .pointer (some ⟨Y, 0, none⟩)]) w1 := by kernel_rfl
set_option maxHeartbeats 400000 in
theorem rtext_any {w : World} {B p : Nat} {b : ByteArray} {most : Int} (hm : most ≤ 9223372036854775807) (h : Rd w B b p 0) (hp : p ≤ b.size) (hb : b.size ≤ 140737488351232) :
    Calls Tryz.prog 215 #[.pointer (some ⟨B, 0, none⟩), .int .i64 most] w (FPost w B b p (.string (textV b p)) (.string ⟨#[]⟩) (numQ b p + numV b p) (textK b p most.toNat)) := by
  have hmf : ∀ (fn : Fn) (first cap : Array Value) (w : World), (Instr.makeFunc fn first cap).run Tryz.prog w = .ok (.func fn first cap) w := fun _ _ _ _ => rfl
  have hlt := h.lt
  have HF : Hid (Calls Tryz.prog 253 #[.pointer (some ⟨B, 0, none⟩), .func (.func 254) #[] #[.pointer (some ⟨w.heap.size, 0, none⟩), .pointer (some ⟨w.heap.size + 1, 0, none⟩)]] ((w.alloc (.cells #[.pointer (some ⟨B, 0, none⟩)] 171)).alloc (.cells #[.int .i64 most] 3))
      (FPost ((w.alloc (.cells #[.pointer (some ⟨B, 0, none⟩)] 171)).alloc (.cells #[.int .i64 most] 3)) B b p (.string (textV b p)) (.string ⟨#[]⟩) (numQ b p + numV b p) (textK b p most.toNat))) :=
    faceS ((h.alloc _).alloc _) _ _ _ _ _ (run_rtext _ _) (fun w1 hbel hR => text1_any hR hp hb hm ((hbel.cell (by simp; omega)).trans (two_X w _ _ _)) ((hbel.cell (by simp)).trans (two_Y w _ _ _)) (by omega) (by omega))
  go_enter Tryz.func215, Tryz.ntmps215
  go_wp2_with fail
  refine HF.out.mono ?_
  intro e w' hF
  by_cases hk : textK b p most.toNat = 0
  · obtain ⟨rfl, hR⟩ := hF.ok hk
    have HP : Hid (FPost w B b p (.string (textV b p)) (.string ⟨#[]⟩) (numQ b p + numV b p) (textK b p most.toNat) (.returned (.string (textV b p))) w') := hF.back (below_two _ _ _)
    clear hF hk hR
    go_wp2_with fail
    go_ret
    exact HP.out
  · obtain ⟨rfl, hR⟩ := hF.no hk
    have HP : Hid (FPost w B b p (.string (textV b p)) (.string ⟨#[]⟩) (numQ b p + numV b p) (textK b p most.toNat) (.returned (.string ⟨#[]⟩)) w') := hF.back (below_two _ _ _)
    clear hF hk hR
    go_wp2_with fail
    go_ret
    exact HP.out
set_option maxHeartbeats 400000 in
theorem rtext_dead {w : World} {B : Nat} {b : ByteArray} {p f : Int} {most : Int} (h : Rd w B b p f) (hf : f ≠ 0) :
    Calls Tryz.prog 215 #[.pointer (some ⟨B, 0, none⟩), .int .i64 most] w fun e w' => e = .returned (.string ⟨#[]⟩) ∧ Below w.heap.size w w' := by
  have hmf : ∀ (fn : Fn) (first cap : Array Value) (w : World), (Instr.makeFunc fn first cap).run Tryz.prog w = .ok (.func fn first cap) w := fun _ _ _ _ => rfl
  go_enter Tryz.func215, Tryz.ntmps215
  go_wp2_with fail
  refine (faceS_dead ((h.alloc _).alloc _) hf _ _).mono ?_
  rintro e w' ⟨rfl, hb1⟩
  go_wp2_with fail
  go_ret
  exact ⟨rfl, (below_two _ _ _).trans (hb1.mono (by simp; omega))⟩

theorem run_rbits (X : Nat) (w1 : World) : (callFunc 251 #[.pointer (some ⟨X, 0, none⟩)]).run Tryz.prog w1 = .ok (.enter 251 #[.pointer (some ⟨X, 0, none⟩)]) w1 := by kernel_rfl
set_option maxHeartbeats 400000 in
theorem rbits_any {w : World} {B p : Nat} {b : ByteArray} (h : Rd w B b p 0) (hp : p ≤ b.size) (hb : b.size ≤ 140737488351232) :
    Calls Tryz.prog 209 #[.pointer (some ⟨B, 0, none⟩)] w (FPost w B b p (.int .u64 (bitsV b p : Int)) (.int .u64 0) (p + 8) (bitsK b p)) := by
  have hmf : ∀ (fn : Fn) (first cap : Array Value) (w : World), (Instr.makeFunc fn first cap).run Tryz.prog w = .ok (.func fn first cap) w := fun _ _ _ _ => rfl
  have hlt := h.lt
  have HF : Hid (Calls Tryz.prog 140 #[.pointer (some ⟨B, 0, none⟩), .func (.func 251) #[] #[.pointer (some ⟨w.heap.size, 0, none⟩)]] (w.alloc (.cells #[.pointer (some ⟨B, 0, none⟩)] 171))
      (FPost (w.alloc (.cells #[.pointer (some ⟨B, 0, none⟩)] 171)) B b p (.int .u64 (bitsV b p : Int)) (.int .u64 0) (p + 8) (bitsK b p))) :=
    faceU (h.alloc _) _ _ _ _ _ (run_rbits _) (fun w1 hbel hR => bits1_any hR hp hb ((hbel.cell (by simp)).trans (one_X w _ _)))
  go_enter Tryz.func209, Tryz.ntmps209
  go_wp2_with fail
  refine HF.out.mono ?_
  intro e w' hF
  by_cases hk : bitsK b p = 0
  · obtain ⟨rfl, hR⟩ := hF.ok hk
    have HP : Hid (FPost w B b p (.int .u64 (bitsV b p : Int)) (.int .u64 0) (p + 8) (bitsK b p) (.returned (.int .u64 (bitsV b p : Int))) w') := hF.back (below_alloc _ _)
    clear hF hk hR
    go_wp2_with fail
    go_ret
    exact HP.out
  · obtain ⟨rfl, hR⟩ := hF.no hk
    have HP : Hid (FPost w B b p (.int .u64 (bitsV b p : Int)) (.int .u64 0) (p + 8) (bitsK b p) (.returned (.int .u64 0)) w') := hF.back (below_alloc _ _)
    clear hF hk hR
    go_wp2_with fail
    go_ret
    exact HP.out
set_option maxHeartbeats 400000 in
theorem rbits_dead {w : World} {B : Nat} {b : ByteArray} {p f : Int} (h : Rd w B b p f) (hf : f ≠ 0) :
    Calls Tryz.prog 209 #[.pointer (some ⟨B, 0, none⟩)] w fun e w' => e = .returned (.int .u64 0) ∧ Below w.heap.size w w' := by
  have hmf : ∀ (fn : Fn) (first cap : Array Value) (w : World), (Instr.makeFunc fn first cap).run Tryz.prog w = .ok (.func fn first cap) w := fun _ _ _ _ => rfl
  go_enter Tryz.func209, Tryz.ntmps209
  go_wp2_with fail
  refine (faceU_dead (h.alloc _) hf _ _).mono ?_
  rintro e w' ⟨rfl, hb1⟩
  go_wp2_with fail
  go_ret
  exact ⟨rfl, (below_alloc _ _).trans (hb1.mono (by simp))⟩
set_option maxHeartbeats 400000 in
theorem read_any (b : ByteArray) (w : World) :
    Calls Tryz.prog 99 #[.string b] w fun e w' => e = .returned (.pointer (some ⟨w.heap.size, 0, none⟩)) ∧ Rd w' w.heap.size b 0 0 ∧ Below w.heap.size w w' := by
  go_enter Tryz.func99, Tryz.ntmps99
  go_wp2
  go_ret
  exact ⟨rfl, heap_alloc_new w _, below_alloc _ _⟩
end Go.Proofs.YtkfnedhllfdghaaGreatDoor
end

section
namespace Go.Proofs.YtkfnedhllfdghaaGreatDoor
set_option maxRecDepth 20000
open Go.RowKit

/-- cells of bytes -/
def bc (l : List UInt8) : List Value := l.map fun c => Value.int .u8 (c.toNat : Int)
theorem bc_len (l : List UInt8) : (bc l).length = l.length := by simp [bc]
theorem bc_append (l m : List UInt8) : bc (l ++ m) = bc l ++ bc m := by simp [bc]
theorem nil_str (w : World) : (convert 212 9 (.slice none 0 0)).run Tryz.prog w = .ok (.string ⟨#[]⟩) w := by
  rw [run_convert_bytes_string w _ _ _ none 0 0 Tryz.underlying212 Tryz.underlying5 Tryz.underlying9]
  simp [Conv.bytesToString]
  rfl
/-- 'string(b)' of a slice of the call's own -/
theorem own_str {w : World} {base : Nat} {v : Value} {l : List UInt8} (h : w.ownsRow base 5 1 v l.length (bc l)) : (convert 212 9 v).run Tryz.prog w = .ok (.string ⟨l.toArray⟩) w := by
  rcases h.2 with ⟨rfl, hn⟩ | ⟨g, cap, cur, rfl, hb, hg, hc, hm, hs, ht⟩
  · have : l = [] := List.length_eq_zero_iff.1 hn
    subst this
    exact nil_str w
  · refine run_convert_bytes_back w _ _ _ ⟨g, 0, none⟩ cap l Tryz.underlying212 Tryz.underlying5 Tryz.underlying9 ?_
    intro j hj
    refine World.ownsRow.cells (v := .slice (some ⟨g, 0, none⟩) l.length cap) h rfl j _ ?_
    simp [bc, hj]
theorem Tryz.infoB : (Tryz.prog.info? 5).map (fun i => (i.zero, i.size, i.bytes)) = some (some (.int .u8 0), 1, 1) := by kernel_rfl

namespace Pk
theorem enc_len (k : Nat) : ∀ n, n < 128 ^ (k + 1) → (enc n).length ≤ k + 1 := by
  induction k with
  | zero => intro n h; rw [enc_lt (by simpa using h)]; simp
  | succ k ih =>
    intro n h
    by_cases hn : n < 128
    · rw [enc_lt hn]; simp
    · rw [enc_ge hn, List.length_cons]
      have := ih (n / 128) (by rw [Nat.pow_succ] at h; omega)
      omega
theorem enc_ten {n : Nat} (h : n < 18446744073709551616) : (enc n).length ≤ 10 := by
  have e : (128 : Nat) ^ (9 + 1) = 1180591620717411303424 := by decide
  exact enc_len 9 n (by omega)
end Pk
theorem or7 (x : Nat) (h : x < 256) : x ||| 128 = x % 128 + 128 := by
  rcases Nat.lt_or_ge x 128 with h1 | h1
  · rw [Nat.or_comm, nat_join 7 128 x (by decide) (by omega)]; omega
  · obtain ⟨y, rfl⟩ : ∃ y, x = 128 + y := ⟨x - 128, by omega⟩
    have e : 128 + y = 128 ||| y := (nat_join 7 128 y (by decide) (by omega)).symm
    have e2 : (128 + y) ||| 128 = 128 + y := by rw [e, Nat.or_comm, ← Nat.or_assoc, Nat.or_self]
    rw [e2]; omega
theorem or128 (m : Nat) : bits .or .u8 (((m : Int) % 256)) 128 = (((m % 128 + 128 : Nat)) : Int) := by
  rw [show (m : Int) % 256 = ((m % 256 : Nat) : Int) by simp, show (128 : Int) = ((128 : Nat) : Int) from rfl, u8_or_nat _ _ (by omega) (by omega), or7 _ (by omega)]
  congr 1
  omega
theorem one_new (w : World) (v : Value) (t : TypeId) : ∀ j u, [v][j]? = some u → (w.alloc (.cells #[v] t)).cell? ((⟨w.heap.size, 0, none⟩ : Addr).add j) = some u := by
  intro j u hj
  match j, hj with
  | 0, hj => simp at hj; subst hj; simp [Addr.add]

theorem grow_below {B : Nat} {w wr w1 : World} {u : Value} {n : Nat} {xs : List Value} {e : TypeId} {sz : Nat} (hB : B ≤ w.heap.size) (hbel : Below B w wr) (hown : wr.ownsRow B e sz u n xs) (o : Obj) (hgrow : (wr.alloc o).grownBy w1 u.ownBlock) : Below B w w1 :=
  (hbel.alloc (Nat.le_trans hB hbel.size) o).grown hgrow (by have := hbel.size; simp; omega) (fun k hk => (hown.lt k hk).1)

set_option maxHeartbeats 800000 in
set_option maxRecDepth 8000 in
theorem pnum_any (n : Nat) (hn : n < 18446744073709551616) (w : World) :
    Calls Tryz.prog 130 #[.int .u64 (n : Int)] w fun e w' => e = .returned (.string ⟨(Pk.enc n).toArray⟩) ∧ Below w.heap.size w w' := by
  obtain ⟨i0, hi, hz0, hz1, hz2⟩ := info_parts Tryz.infoB
  go_enter Tryz.func130, Tryz.ntmps130
  go_wp2
  go_loopw [0, 3] (fun u v wr => ∃ (m : Nat) (pre : List UInt8), u = .int .u64 (m : Int) ∧ m ≤ n ∧ Hid (Pk.enc n = pre ++ Pk.enc m) ∧ wr.ownsRow w.heap.size 5 1 v pre.length (bc pre) ∧ Below w.heap.size w wr) (fun u _ _ => (intOf u).toNat)
  case atStart => exact ⟨n, [], rfl, Nat.le_refl _, rfl, World.ownsRow_nil _ _ _ _, Below.refl _ _⟩
  case round =>
    obtain ⟨m, pre, rfl, hm, HE, hown, hbel⟩ := hrel
    have hlen := Pk.enc_ten hn
    rw [HE.out, List.length_append] at hlen
    have hpos := Pk.enc_pos m
    by_cases h128 : m < 128
    · have b0 : decide ((128 : Int) ≤ (m : Int)) = false := by simp; omega
      have HN : Hid (bc (Pk.enc n) = bc pre ++ [.int .u8 (m : Int)]) := (show bc (Pk.enc n) = _ by
        rw [HE.out, bc_append, Pk.enc_lt h128]; simp only [bc, List.map_cons, List.map_nil]; rw [Pk.toNat_ofNat (by omega)])
      have HM : Hid (pre.length + 1 = (Pk.enc n).length) := (show pre.length + 1 = _ by rw [HE.out, List.length_append, Pk.enc_lt h128]; rfl)
      go_wp2_with (first
        | (at_builtin; refine wpList_append_own _ rfl _ _ 212 rfl w.heap.size 5 i0 (.int .u8 0) 1 1 Tryz.underlying212 hi hz0 hz1 hz2 rfl (by decide) _ _ _ rfl (hown.alloc _) ⟨wr.heap.size, 0, none⟩ 1 1 [.int .u8 (m : Int)] rfl rfl (one_new _ _ _) (by intro u hu; simp at hu; subst hu; rfl) (by unfold maxLen; omega) (by omega) (by have := hbel.size; simp; omega) ?_; intro v' w1 hown' hgrow hnil; clear hnil; have hcv : (convert 212 9 v').run Tryz.prog w1 = .ok (.string ⟨(Pk.enc n).toArray⟩) w1 := own_str (base := w.heap.size) (by rw [← HM.out, HN.out]; exact hown'); have hb1 : Below w.heap.size w w1 := grow_below (Nat.le_refl _) hbel hown _ hgrow; clear hown' hgrow hown hbel)
        | go_in)
      go_ret
      exact ⟨rfl, hb1⟩
    · have b0 : decide ((128 : Int) ≤ (m : Int)) = true := by simp; omega
      have HE' : Hid (Pk.enc n = (pre ++ [UInt8.ofNat (m % 128 + 128)]) ++ Pk.enc (m / 128)) := (show Pk.enc n = _ by rw [HE.out, Pk.enc_ge h128]; simp)
      have HN : Hid (bc (pre ++ [UInt8.ofNat (m % 128 + 128)]) = bc pre ++ [.int .u8 (bits .or .u8 ((m : Int) % 256) 128)]) := (show bc _ = _ by
        rw [bc_append, or128]; simp only [bc, List.map_cons, List.map_nil]; rw [Pk.toNat_ofNat (by omega)])
      go_wp2_with (first
        | (at_builtin; refine wpList_append_own _ rfl _ _ 212 rfl w.heap.size 5 i0 (.int .u8 0) 1 1 Tryz.underlying212 hi hz0 hz1 hz2 rfl (by decide) _ _ _ rfl (hown.alloc _) ⟨wr.heap.size, 0, none⟩ 1 1 [.int .u8 (bits .or .u8 ((m : Int) % 256) 128)] rfl rfl (one_new _ _ _) (by intro u hu; simp at hu; subst hu; rfl) (by unfold maxLen; omega) (by omega) (by have := hbel.size; simp; omega) ?_; intro v' w1 hown' hgrow hnil; clear hnil; have HB1 : Hid (Below w.heap.size w w1) := grow_below (Nat.le_refl _) hbel hown _ hgrow)
        | go_in)
      refine ⟨⟨m / 128, pre ++ [UInt8.ofNat (m % 128 + 128)], by go_num, by omega, HE', ?_, HB1.out⟩, by simp [intOf]; omega⟩
      rw [HN.out, List.length_append]
      exact hown'
end Go.Proofs.YtkfnedhllfdghaaGreatDoor
end

section
namespace Go.Proofs.YtkfnedhllfdghaaGreatDoor
set_option maxRecDepth 20000
open Go.RowKit

namespace Pk
def big8 (n : Nat) : List UInt8 := [UInt8.ofNat (n / 72057594037927936 % 256), UInt8.ofNat (n / 281474976710656 % 256), UInt8.ofNat (n / 1099511627776 % 256), UInt8.ofNat (n / 4294967296 % 256), UInt8.ofNat (n / 16777216 % 256), UInt8.ofNat (n / 65536 % 256), UInt8.ofNat (n / 256 % 256), UInt8.ofNat (n % 256)]
end Pk

set_option maxHeartbeats 400000 in
theorem ptext_any (s : ByteArray) (hs : s.size ≤ 140737488351232) (w : World) :
    Calls Tryz.prog 213 #[.string s] w fun e w' => e = .returned (.string ((⟨(Pk.enc s.size).toArray⟩ : ByteArray) ++ s)) ∧ Below w.heap.size w w' := by
  have hlen := Pk.enc_ten (n := s.size) (by omega)
  have hadd : ∀ w1 : World, (Op.stringOp .add ⟨(Pk.enc s.size).toArray⟩ s).run Tryz.prog w1 = .ok (.string ((⟨(Pk.enc s.size).toArray⟩ : ByteArray) ++ s)) w1 := fun w1 =>
    run_string_add_sum w1 _ _ (by show (Pk.enc s.size).toArray.size + s.size ≤ _; simp; omega)
  generalize (⟨(Pk.enc s.size).toArray⟩ : ByteArray) ++ s = t at *
  go_enter Tryz.func213, Tryz.ntmps213
  go_wp2_with (go_at_call 130; refine (pnum_any s.size (by omega) _).mono ?_; rintro e w' ⟨rfl, hb⟩)
  go_ret
  exact ⟨rfl, hb⟩

/-- the eight bytes as the walk lays them -/
theorem big8_cell (n : Nat) (hn : n < 18446744073709551616) (w : World) : ∀ j (hj : j < (Pk.big8 n).length), (w.alloc (.cells #[.int .u8 ((n : Int) / 72057594037927936), .int .u8 ((n : Int) / 281474976710656 % 256), .int .u8 ((n : Int) / 1099511627776 % 256), .int .u8 ((n : Int) / 4294967296 % 256), .int .u8 ((n : Int) / 16777216 % 256), .int .u8 ((n : Int) / 65536 % 256), .int .u8 ((n : Int) / 256 % 256), .int .u8 ((n : Int) % 256)] 280)).cell? ((⟨w.heap.size, 0, none⟩ : Addr).add j) = some (.int .u8 ((Pk.big8 n)[j].toNat : Int)) := by
  intro j hj
  have hadd : (⟨w.heap.size, 0, none⟩ : Addr).add j = ⟨w.heap.size, j, none⟩ := by unfold Addr.add; split <;> simp_all
  rw [hadd, World.cell?_alloc_at _ _ _ _ rfl]
  have e : ∀ x : Nat, (UInt8.ofNat (x % 256)).toNat = x % 256 := fun x => Pk.toNat_ofNat (Nat.mod_lt _ (by decide))
  have h8 : j < 8 := hj
  match j, h8 with
  | 0, _ => show some (Value.int .u8 ((n : Int) / 72057594037927936)) = some (.int .u8 ((UInt8.ofNat (n / 72057594037927936 % 256)).toNat : Int)); rw [e]; congr 2; omega
  | 1, _ => show some (Value.int .u8 ((n : Int) / 281474976710656 % 256)) = some (.int .u8 ((UInt8.ofNat (n / 281474976710656 % 256)).toNat : Int)); rw [e]; congr 2
  | 2, _ => show some (Value.int .u8 ((n : Int) / 1099511627776 % 256)) = some (.int .u8 ((UInt8.ofNat (n / 1099511627776 % 256)).toNat : Int)); rw [e]; congr 2
  | 3, _ => show some (Value.int .u8 ((n : Int) / 4294967296 % 256)) = some (.int .u8 ((UInt8.ofNat (n / 4294967296 % 256)).toNat : Int)); rw [e]; congr 2
  | 4, _ => show some (Value.int .u8 ((n : Int) / 16777216 % 256)) = some (.int .u8 ((UInt8.ofNat (n / 16777216 % 256)).toNat : Int)); rw [e]; congr 2
  | 5, _ => show some (Value.int .u8 ((n : Int) / 65536 % 256)) = some (.int .u8 ((UInt8.ofNat (n / 65536 % 256)).toNat : Int)); rw [e]; congr 2
  | 6, _ => show some (Value.int .u8 ((n : Int) / 256 % 256)) = some (.int .u8 ((UInt8.ofNat (n / 256 % 256)).toNat : Int)); rw [e]; congr 2
  | 7, _ => show some (Value.int .u8 ((n : Int) % 256)) = some (.int .u8 ((UInt8.ofNat (n % 256)).toNat : Int)); rw [e]; congr 2

set_option maxHeartbeats 1600000 in
set_option maxRecDepth 8000 in
theorem pbits_any (n : Nat) (hn : n < 18446744073709551616) (w : World) :
    Calls Tryz.prog 207 #[.int .u64 (n : Int)] w fun e w' => e = .returned (.string ⟨(Pk.big8 n).toArray⟩) ∧ Below w.heap.size w w' := by
  have hcv := run_convert_bytes_back _ _ _ _ (⟨w.heap.size, 0, none⟩ : Addr) 8 (Pk.big8 n) Tryz.underlying212 Tryz.underlying5 Tryz.underlying9 (big8_cell n hn w)
  rw [show (Pk.big8 n).length = 8 from rfl] at hcv
  generalize (⟨(Pk.big8 n).toArray⟩ : ByteArray) = t at *
  go_enter Tryz.func207, Tryz.ntmps207
  go_wp2
  refine wp_loop_rounds 9 ?_
  rw [rounds_succ]; go_wp2
  rw [rounds_succ]; go_wp2
  rw [rounds_succ]; go_wp2
  rw [rounds_succ]; go_wp2
  rw [rounds_succ]; go_wp2
  rw [rounds_succ]; go_wp2
  rw [rounds_succ]; go_wp2
  rw [rounds_succ]; go_wp2
  rw [rounds_succ]; go_wp2
  go_ret
  exact ⟨rfl, below_alloc _ _⟩
end Go.Proofs.YtkfnedhllfdghaaGreatDoor
end

section
namespace Go.Proofs.YtkfnedhllfdghaaGreatDoor
set_option maxRecDepth 20000
open Go.RowKit

theorem enc_300 : Pk.enc 300 = [172, 2] := by
  rw [Pk.enc_ge (by decide), Pk.enc_lt (by decide)]; rfl
theorem enc_1 : Pk.enc 1 = [1] := by rw [Pk.enc_lt (by decide)]; rfl
theorem pnum_300 (w : World) : Calls Tryz.prog 130 #[.int .u64 300] w fun e w' => e = .returned (.string ⟨#[172, 2]⟩) ∧ Below w.heap.size w w' := by
  have := pnum_any 300 (by decide) w
  rw [enc_300] at this; exact this
theorem ptext_a (w : World) : Calls Tryz.prog 213 #[.string ⟨#[97]⟩] w fun e w' => e = .returned (.string ⟨#[1, 97]⟩) ∧ Below w.heap.size w w' := by
  have := ptext_any ⟨#[97]⟩ (by decide) w
  rw [show (⟨#[97]⟩ : ByteArray).size = 1 from rfl, enc_1] at this; exact this
theorem pbits_1 (w : World) : Calls Tryz.prog 207 #[.int .u64 1] w fun e w' => e = .returned (.string ⟨#[0, 0, 0, 0, 0, 0, 0, 1]⟩) ∧ Below w.heap.size w w' := pbits_any 1 (by decide) w

theorem extract_eq (b : ByteArray) (p n : Nat) : b.extract p (p + n) = ⟨((rest b p).take n).toArray⟩ := by
  apply ByteArray.ext
  apply Array.ext'
  rw [extract_list]
theorem rnum_300 {w : World} {B : Nat} (h : Rd w B ⟨#[172, 2, 1, 97]⟩ 0 0) : Calls Tryz.prog 100 #[.pointer (some ⟨B, 0, none⟩), .int .u64 300] w fun e w' => e = .returned (.int .u64 300) ∧ Rd w' B ⟨#[172, 2, 1, 97]⟩ 2 0 ∧ w.grownBy w' (some B) := by
  refine (rnum_any (p := 0) (most := 300) h (by decide) (by decide)).mono ?_
  intro e w' hF
  obtain ⟨rfl, hR⟩ := hF.ok (by decide)
  exact ⟨by rw [show numV ⟨#[172, 2, 1, 97]⟩ 0 = 300 by decide]; rfl, by rw [show numQ ⟨#[172, 2, 1, 97]⟩ 0 = 2 by decide] at hR; exact hR, hF.grown⟩
theorem rtext_a {w : World} {B : Nat} (h : Rd w B ⟨#[172, 2, 1, 97]⟩ 2 0) : Calls Tryz.prog 215 #[.pointer (some ⟨B, 0, none⟩), .int .i64 1] w fun e w' => e = .returned (.string ⟨#[97]⟩) ∧ Rd w' B ⟨#[172, 2, 1, 97]⟩ 4 0 ∧ w.grownBy w' (some B) := by
  refine (rtext_any (p := 2) (most := 1) (by decide) h (by decide) (by decide)).mono ?_
  intro e w' hF
  have hv : textV ⟨#[172, 2, 1, 97]⟩ 2 = ⟨#[97]⟩ := by
    unfold textV
    rw [extract_eq, show numQ ⟨#[172, 2, 1, 97]⟩ 2 = 3 by decide, show numV ⟨#[172, 2, 1, 97]⟩ 2 = 1 by decide]; rfl
  obtain ⟨rfl, hR⟩ := hF.ok (by decide)
  exact ⟨by rw [hv], by rw [show numQ ⟨#[172, 2, 1, 97]⟩ 2 + numV ⟨#[172, 2, 1, 97]⟩ 2 = 4 by decide] at hR; exact hR, hF.grown⟩
theorem rnum_5 {w : World} {B : Nat} (h : Rd w B ⟨#[5]⟩ 0 0) : Calls Tryz.prog 100 #[.pointer (some ⟨B, 0, none⟩), .int .u64 4] w fun e w' => e = .returned (.int .u64 0) ∧ Rd w' B ⟨#[5]⟩ 0 21 ∧ w.grownBy w' (some B) := by
  refine (rnum_any (p := 0) (most := 4) h (by decide) (by decide)).mono ?_
  intro e w' hF
  obtain ⟨rfl, hR⟩ := hF.no (by decide)
  exact ⟨rfl, by rw [show numK ⟨#[5]⟩ 0 4 21 = 21 by decide] at hR; exact hR, hF.grown⟩

theorem below_of_grown {w w1 w2 : World} {B : Nat} (h : Below w.heap.size w w1) (hB : w.heap.size ≤ B) (g : w1.grownBy w2 (some B)) : Below w.heap.size w w2 :=
  h.trans ⟨g.os, g.tape, g.output, g.size, fun k hk => g.block k (Nat.lt_of_lt_of_le hk h.size) (by simp; omega)⟩
theorem below_tr {a b c : World} (h : Below a.heap.size a b) (k : Below b.heap.size b c) : Below a.heap.size a c := h.trans (k.mono h.size)
theorem below_dn {a b : World} (h : Below a.heap.size a b) (n : Nat) : Below a.heap.size a (b.drewN n) := below_drewN h n

end Go.Proofs.YtkfnedhllfdghaaGreatDoor
end

section
namespace Go.Proofs.YtkfnedhllfdghaaGreatDoor
set_option maxRecDepth 20000
open Go.RowKit

end Go.Proofs.YtkfnedhllfdghaaGreatDoor
end

section
namespace Go.Proofs.YtkfnedhllfdghaaGreatDoor
set_option maxRecDepth 20000
open Go.RowKit

theorem take_add' (l : List UInt8) (p n : Nat) : l.take (p + n) = l.take p ++ (l.drop p).take n := by rw [List.take_add]
theorem numK_zero {b : ByteArray} {p most above : Nat} (ha : above ≠ 0) (h : numK b p most above = 0) : Pk.dec 0 0 (rest b p) = (0, numV b p, numQ b p - p) ∧ numV b p ≤ most ∧ p < numQ b p := by
  unfold numK at h
  by_cases h1 : (Pk.dec 0 0 (rest b p)).1 = 0
  · rw [if_neg (by simpa using h1)] at h
    have hD : Pk.dec 0 0 (rest b p) = (0, (Pk.dec 0 0 (rest b p)).2.1, (Pk.dec 0 0 (rest b p)).2.2) := Prod.ext h1 rfl
    obtain ⟨l1, l2⟩ := Pk.dec_le _ _ _ _ _ hD (by decide)
    have hmost : ¬ most < (Pk.dec 0 0 (rest b p)).2.1 := fun hh => by rw [if_pos hh] at h; exact ha h
    unfold numV numQ
    refine ⟨?_, by omega, by omega⟩
    rw [show p + (Pk.dec 0 0 (rest b p)).2.2 - p = (Pk.dec 0 0 (rest b p)).2.2 by omega]
    exact hD
  · rw [if_pos (by simpa using h1)] at h
    exact absurd h h1
/-- what is read of a number is its form -/
theorem num_form {b : ByteArray} {p most above : Nat} (hp : p ≤ b.size) (ha : above ≠ 0) (h : numK b p most above = 0) :
    numQ b p = p + (Pk.enc (numV b p)).length ∧ numQ b p ≤ b.size ∧ numV b p ≤ most ∧ numV b p < 18446744073709551616 ∧ b.data.toList.take (numQ b p) = b.data.toList.take p ++ Pk.enc (numV b p) := by
  obtain ⟨hD, hm, hq⟩ := numK_zero ha h
  obtain ⟨x, hx, hlt, hl, _, r, hr⟩ := Pk.dec_form _ _ _ _ _ (by decide) hD
  simp only [Nat.pow_zero, Nat.mul_one, Nat.zero_add] at hx hlt hl
  subst hx
  have hle := congrArg List.length hr
  rw [rest_len, List.length_append] at hle
  have hq' : numQ b p = p + (Pk.enc (numV b p)).length := by omega
  refine ⟨hq', by omega, hm, hlt, ?_⟩
  rw [hq', take_add']
  congr 1
  have : (b.data.toList.drop p) = Pk.enc (numV b p) ++ r := hr
  rw [this, List.take_left']
  rfl

namespace Pk
theorem big8_fold8 (l : List UInt8) (h : l.length = 8) : big8 (fold8 l) = l := by
  match l, h with
  | [a, b, c, d, e, f, g, i], _ =>
    have ha := a.toNat_lt; have hb := b.toNat_lt; have hc := c.toNat_lt; have hd := d.toNat_lt; have he := e.toNat_lt; have hf := f.toNat_lt; have hg := g.toNat_lt; have hi := i.toNat_lt
    have hx : fold8 [a, b, c, d, e, f, g, i] = ((((((a.toNat * 256 + b.toNat) * 256 + c.toNat) * 256 + d.toNat) * 256 + e.toNat) * 256 + f.toNat) * 256 + g.toNat) * 256 + i.toNat := by simp [fold8]
    have key : ∀ (x : Nat) (u : UInt8), x % 256 = u.toNat → UInt8.ofNat (x % 256) = u := fun x u hu => by rw [hu]; simp
    unfold big8
    rw [hx]
    congr 1
    · exact key _ _ (by omega)
    congr 1
    · exact key _ _ (by omega)
    congr 1
    · exact key _ _ (by omega)
    congr 1
    · exact key _ _ (by omega)
    congr 1
    · exact key _ _ (by omega)
    congr 1
    · exact key _ _ (by omega)
    congr 1
    · exact key _ _ (by omega)
    congr 1
    · exact key _ _ (by omega)
theorem fold8_big8 (n : Nat) (h : n < 18446744073709551616) : fold8 (big8 n) = n := by
  have e : ∀ x : Nat, (UInt8.ofNat (x % 256)).toNat = x % 256 := fun x => toNat_ofNat (Nat.mod_lt _ (by decide))
  simp only [fold8, big8, List.foldl_cons, List.foldl_nil, e]
  omega
end Pk
theorem bits_form {b : ByteArray} {p : Nat} (h : bitsK b p = 0) : p + 8 ≤ b.size ∧ bitsV b p < 18446744073709551616 ∧ (Pk.big8 (bitsV b p)).length = 8 ∧ b.data.toList.take (p + 8) = b.data.toList.take p ++ Pk.big8 (bitsV b p) := by
  have hs : p + 8 ≤ b.size := by
    unfold bitsK at h
    rcases Nat.lt_or_ge b.size (p + 8) with h1 | h1
    · rw [if_pos h1] at h; cases h
    · exact h1
  have hl : ((rest b p).take 8).length = 8 := by rw [List.length_take, rest_len]; omega
  refine ⟨hs, ?_, rfl, ?_⟩
  · have := Pk.fold8_lt ((rest b p).take 8) 8 (by omega)
    rw [List.take_of_length_le (by omega)] at this
    exact this
  · rw [take_add']
    congr 1
    unfold bitsV
    rw [Pk.big8_fold8 _ hl]
    rfl
theorem text_form {b : ByteArray} {p most : Nat} (hp : p ≤ b.size) (h : textK b p most = 0) :
    numQ b p + numV b p ≤ b.size ∧ (textV b p).size = numV b p ∧ (textV b p).size ≤ b.size ∧ numQ b p + numV b p = p + (Pk.enc (textV b p).size ++ (textV b p).data.toList).length ∧ b.data.toList.take (numQ b p + numV b p) = b.data.toList.take p ++ (Pk.enc (textV b p).size ++ (textV b p).data.toList) := by
  unfold textK at h
  by_cases h1 : numK b p most 23 = 0
  · rw [if_neg (by simpa using h1)] at h
    have hs : numQ b p + numV b p ≤ b.size := by
      rcases Nat.lt_or_ge b.size (numQ b p + numV b p) with h2 | h2
      · rw [if_pos h2] at h; cases h
      · exact h2
    obtain ⟨hq, hq2, _, _, hf⟩ := num_form hp (by decide) h1
    have hsz : (textV b p).size = numV b p := by unfold textV; exact extract_size b _ _ hs
    have hd : (textV b p).data.toList = (rest b (numQ b p)).take (numV b p) := by unfold textV; exact extract_list b _ _
    refine ⟨hs, hsz, by omega, ?_, ?_⟩
    · rw [hsz, hd, List.length_append, List.length_take, rest_len]; omega
    · rw [take_add', hf, hsz, hd, List.append_assoc]
      rfl
  · rw [if_pos h1] at h
    exact absurd h h1
/-- the first bytes of a string -/
theorem ext_take (b : ByteArray) (q : Nat) : b.extract 0 q = ⟨(b.data.toList.take q).toArray⟩ := by
  have := extract_eq b 0 q
  rw [Nat.zero_add] at this
  rw [this]; rfl
theorem own_pre {w : World} {base : Nat} {v : Value} {b : ByteArray} {q : Nat} (hq : q ≤ b.size) (h : w.ownsRow base 5 1 v q (bc (b.data.toList.take q))) : (convert 212 9 v).run Tryz.prog w = .ok (.string (b.extract 0 q)) w := by
  have hl : (b.data.toList.take q).length = q := by rw [List.length_take]; have : b.data.toList.length = b.size := rfl; omega
  rw [ext_take]
  refine own_str (base := base) ?_
  rw [hl]; exact h
theorem strCells_bc (s : ByteArray) : Lib.strCells s = bc s.data.toList := rfl
/-- a row that is owned and is not nil -/
theorem own_shape {w : World} {base e sz n : Nat} {v : Value} {xs : List Value} (h : w.ownsRow base e sz v n xs) (hn : v ≠ .slice none 0 0) : ∃ g cap, v = .slice (some ⟨g, 0, none⟩) n cap ∧ base ≤ g := by
  rcases h.2 with ⟨h1, _⟩ | ⟨g, cap, cur, h1, hb, _⟩
  · exact absurd h1 hn
  · exact ⟨g, cap, h1, hb⟩
end Go.Proofs.YtkfnedhllfdghaaGreatDoor
end

section
namespace Go.Proofs.YtkfnedhllfdghaaGreatDoor.W
set_option maxRecDepth 20000
namespace Wr

/-- the fields' letters -/
inductive L | S | N | J | B | I | C | R | T | P deriving DecidableEq
/-- what stands in a field -/
@[ext] structure V where
  i : Int
  n : Nat
  t : ByteArray
@[ext] structure Ms where
  k : Int
  se : Int
  nu : Int
  jo : Int
  ba : Int
  ix : Int
  co : Int
  rc : Int
  rb : Nat
  tx : ByteArray
  pr : ByteArray
  deriving DecidableEq
def e0 : ByteArray := ⟨#[]⟩
def zV : V := ⟨0, 0, e0⟩
def zM (k : Int) : Ms := ⟨k, 0, 0, 0, 0, 0, 0, 0, 0, e0, e0⟩
def get : L → Ms → V
  | .S, m => ⟨m.se, 0, e0⟩ | .N, m => ⟨m.nu, 0, e0⟩ | .J, m => ⟨m.jo, 0, e0⟩ | .B, m => ⟨m.ba, 0, e0⟩ | .I, m => ⟨m.ix, 0, e0⟩ | .C, m => ⟨m.co, 0, e0⟩
  | .R, m => ⟨m.rc, m.rb, e0⟩ | .T, m => ⟨0, 0, m.tx⟩ | .P, m => ⟨0, 0, m.pr⟩
def set : L → V → Ms → Ms
  | .S, v, m => { m with se := v.i } | .N, v, m => { m with nu := v.i } | .J, v, m => { m with jo := v.i } | .B, v, m => { m with ba := v.i } | .I, v, m => { m with ix := v.i } | .C, v, m => { m with co := v.i }
  | .R, v, m => { m with rc := v.i, rb := v.n } | .T, v, m => { m with tx := v.t } | .P, v, m => { m with pr := v.t }
def nrm : L → V → V
  | .R, v => ⟨v.i, v.n, e0⟩ | .T, v => ⟨0, 0, v.t⟩ | .P, v => ⟨0, 0, v.t⟩ | _, v => ⟨v.i, 0, e0⟩
theorem get_set (l : L) (v : V) (m : Ms) : get l (set l v m) = nrm l v := by cases l <;> rfl
theorem get_ne {l l' : L} (h : l ≠ l') (v : V) (m : Ms) : get l' (set l v m) = get l' m := by cases l <;> cases l' <;> first | rfl | exact absurd rfl h
theorem k_set (l : L) (v : V) (m : Ms) : (set l v m).k = m.k := by cases l <;> rfl
theorem nrm_get (l : L) (m : Ms) : nrm l (get l m) = get l m := by cases l <;> rfl
theorem get_z (l : L) (k : Int) : get l (zM k) = zV := by cases l <;> rfl
theorem nrm_z (l : L) : nrm l zV = zV := by cases l <;> rfl
theorem ms_ext {m n : Ms} (hk : m.k = n.k) (h : ∀ l, get l m = get l n) : m = n := by
  have hS := h .S; have hN := h .N; have hJ := h .J; have hB := h .B; have hI := h .I; have hC := h .C; have hR := h .R; have hT := h .T; have hP := h .P
  simp only [get, V.mk.injEq, true_and, and_true] at hS hN hJ hB hI hC hR hT hP
  exact Ms.ext hk hS hN hJ hB hI hC hR.1 hR.2 hT hP

/-- a kind's letters -/
def letters (k : Int) : List L :=
  if k = 2 then [.S, .N] else if k = 3 then [.S, .N, .B] else if k = 4 then [.S, .N, .B, .C, .R] else if k = 5 then [.B, .I, .T]
  else if k = 6 then [.J, .B, .I, .T] else if k = 7 then [.S] else if k = 8 then [.S, .N] else if k = 9 then [.S, .N, .J, .B, .P]
  else if k = 10 then [.S, .N] else if k = 11 then [.S, .N] else if k = 12 then [.S, .N] else if k = 13 then [.S, .N]
  else if k = 14 then [.B, .C] else if k = 15 then [.J, .B, .C] else if k = 16 then [.J, .B] else []
theorem nd_ite {c : Prop} [Decidable c] {a b : List L} (ha : a.Nodup) (hb : b.Nodup) : (if c then a else b).Nodup := by
  by_cases h : c
  · rw [if_pos h]; exact ha
  · rw [if_neg h]; exact hb
theorem letters_nodup (k : Int) : (letters k).Nodup := by
  unfold letters
  repeat (refine nd_ite (by decide) ?_)
  decide
def least : L → Int
  | .S => 1 | .N => 1 | .J => 1 | .B => 1 | .P => 1 | _ => 0
def most (k : Int) : L → Int
  | .S => 1099511627776 | .N => 1099511627776 | .J => 8 | .B => 1099511627776
  | .I => if k = 6 then 16 else 31 | .C => if k = 15 then 17 else 32 | .R => 7 | .T => 32 | .P => 1024
/-- may bits be? -/
def canonB (code : Int) (b : Nat) : Bool := if code ≠ 0 then decide (b = 0) else decide (b % 9223372036854775808 ≤ 9218868437227405312 ∨ b = 9221120237041090561)
def sz : L → V → Int
  | .T, v => (v.t.size : Int) | .P, v => (v.t.size : Int) | _, v => v.i
def may (k : Int) (l : L) (v : V) : Bool := decide (least l ≤ sz l v ∧ sz l v ≤ most k l) && (decide (l ≠ .R) || canonB v.i v.n)
/-- Check's loop -/
def chk : List L → Ms → Bool
  | [], m => decide (m = zM m.k)
  | l :: ls, m => may m.k l (get l m) && chk ls (set l zV m)
theorem chk_iff (ls : List L) : ∀ m, ls.Nodup → (chk ls m = true ↔ (∀ l ∈ ls, may m.k l (get l m) = true) ∧ ∀ l, l ∉ ls → get l m = zV) := by
  induction ls with
  | nil =>
    intro m _
    simp only [chk, decide_eq_true_eq, List.not_mem_nil, not_false_eq_true, forall_const, false_implies, implies_true, true_and]
    exact ⟨fun h l => by rw [h, get_z], fun h => ms_ext rfl fun l => by rw [h l, get_z]⟩
  | cons l ls ih =>
    intro m hn
    obtain ⟨hl, hn⟩ := List.nodup_cons.mp hn
    rw [chk, Bool.and_eq_true, ih _ hn, k_set]
    constructor
    · rintro ⟨h1, h2, h3⟩
      refine ⟨?_, ?_⟩
      · intro l' h'
        rcases List.mem_cons.mp h' with rfl | h'
        · exact h1
        · rw [← get_ne (l := l) (l' := l') (fun e => hl (e ▸ h')) zV m]; exact h2 _ h'
      · intro l' h'
        rw [List.mem_cons, not_or] at h'
        rw [← get_ne (l := l) (l' := l') (fun e => h'.1 e.symm) zV m]; exact h3 _ h'.2
    · rintro ⟨h1, h2⟩
      refine ⟨h1 _ (List.mem_cons_self), ?_, ?_⟩
      · intro l' h'
        rw [get_ne (l := l) (l' := l') (fun e => hl (e ▸ h')) zV m]; exact h1 _ (List.mem_cons_of_mem _ h')
      · intro l' h'
        by_cases e : l = l'
        · subst e; rw [get_set, nrm_z]
        · rw [get_ne e]; exact h2 _ (by rw [List.mem_cons, not_or]; exact ⟨fun h => e h.symm, h'⟩)
/-- Check's answer -/
def check (m : Ms) : Nat := if m.k < 1 ∨ 16 < m.k then 70 else if m.k = 6 ∧ m.ix = 0 ∧ m.tx.size ≠ 0 then 71 else if chk (letters m.k) m then 0 else 71
theorem check_iff (m : Ms) : check m = 0 ↔ (1 ≤ m.k ∧ m.k ≤ 16) ∧ ¬ (m.k = 6 ∧ m.ix = 0 ∧ m.tx.size ≠ 0) ∧ (∀ l ∈ letters m.k, may m.k l (get l m) = true) ∧ ∀ l, l ∉ letters m.k → get l m = zV := by
  unfold check
  rw [← chk_iff _ _ (letters_nodup _)]
  by_cases h1 : m.k < 1 ∨ 16 < m.k
  · rw [if_pos h1]; constructor
    · intro h; cases h
    · rintro ⟨h, _⟩; omega
  · rw [if_neg h1]
    by_cases h2 : m.k = 6 ∧ m.ix = 0 ∧ m.tx.size ≠ 0
    · rw [if_pos h2]; constructor
      · intro h; cases h
      · rintro ⟨_, h, _⟩; exact absurd h2 h
    · rw [if_neg h2]
      cases hc : chk (letters m.k) m
      · simp
      · simp only [if_true]; exact ⟨fun _ => ⟨by omega, h2, trivial⟩, fun _ => trivial⟩
theorem check_three (m : Ms) : check m = 0 ∨ check m = 70 ∨ check m = 71 := by
  unfold check
  repeat' split
  all_goals simp

/-- a field's bytes -/
def lay : L → V → List UInt8
  | .R, v => Pk.enc v.i.toNat ++ Pk.big8 v.n
  | .T, v => Pk.enc v.t.size ++ v.t.data.toList
  | .P, v => Pk.enc v.t.size ++ v.t.data.toList
  | _, v => Pk.enc v.i.toNat
def body (m : Ms) (ls : List L) : List UInt8 := ls.flatMap fun l => lay l (get l m)
def bytes (m : Ms) : List UInt8 := Pk.enc m.k.toNat ++ body m (letters m.k)

/-- a reader: place and fault -/
abbrev St := Nat × Nat × Ms
def rdN (b : ByteArray) (lim : Nat) (p f : Nat) : Nat × Nat × Nat := if f ≠ 0 then (0, p, f) else if numK b p lim 21 = 0 then (numV b p, numQ b p, 0) else (0, p, numK b p lim 21)
def rdT (b : ByteArray) (lim : Nat) (p f : Nat) : ByteArray × Nat × Nat := if f ≠ 0 then (e0, p, f) else if textK b p lim = 0 then (textV b p, numQ b p + numV b p, 0) else (e0, p, textK b p lim)
def rdB (b : ByteArray) (p f : Nat) : Nat × Nat × Nat := if f ≠ 0 then (0, p, f) else if bitsK b p = 0 then (bitsV b p, p + 8, 0) else (0, p, bitsK b p)
/-- one field read -/
def rd (b : ByteArray) (lim : L → Nat) (l : L) (p f : Nat) : V × Nat × Nat :=
  match l with
  | .R => (⟨((rdN b (lim .R) p f).1 : Int), (rdB b (rdN b (lim .R) p f).2.1 (rdN b (lim .R) p f).2.2).1, e0⟩, (rdB b (rdN b (lim .R) p f).2.1 (rdN b (lim .R) p f).2.2).2)
  | .T => (⟨0, 0, (rdT b (lim .T) p f).1⟩, (rdT b (lim .T) p f).2)
  | .P => (⟨0, 0, (rdT b (lim .P) p f).1⟩, (rdT b (lim .P) p f).2)
  | l => (⟨((rdN b (lim l) p f).1 : Int), 0, e0⟩, (rdN b (lim l) p f).2)
def rds (b : ByteArray) (lim : L → Nat) : List L → Nat → Nat → Ms → Nat × Nat × Ms
  | [], p, f, m => (p, f, m)
  | l :: ls, p, f, m => rds b lim ls (rd b lim l p f).2.1 (rd b lim l p f).2.2 (set l (rd b lim l p f).1 m)
end Wr
end Go.Proofs.YtkfnedhllfdghaaGreatDoor.W
end

section
namespace Go.Proofs.YtkfnedhllfdghaaGreatDoor.W
set_option maxRecDepth 20000

theorem num_at {b : ByteArray} {p N most above : Nat} {more : List UInt8} (h : rest b p = Pk.enc N ++ more) (hN : N < 18446744073709551616) (hm : N ≤ most) :
    numK b p most above = 0 ∧ numV b p = N ∧ numQ b p = p + (Pk.enc N).length := by
  have hD : Pk.dec 0 0 (rest b p) = (0, N, (Pk.enc N).length) := by
    rw [h, Pk.dec_enc N 0 0 _ (by decide) (by simpa using hN) (.inl rfl)]
    simp
  exact ⟨numK_ok hD hm, by unfold numV; rw [hD], by unfold numQ; rw [hD]⟩
theorem bits_at {b : ByteArray} {p N : Nat} {more : List UInt8} (hp : p ≤ b.size) (h : rest b p = Pk.big8 N ++ more) (hN : N < 18446744073709551616) : bitsK b p = 0 ∧ bitsV b p = N := by
  have hl := congrArg List.length h
  rw [rest_len, List.length_append, show (Pk.big8 N).length = 8 from rfl] at hl
  refine ⟨if_neg (by omega), ?_⟩
  unfold bitsV
  rw [h, List.take_left' (show (Pk.big8 N).length = 8 from rfl)]
  exact Pk.fold8_big8 N hN
theorem text_at {b S : ByteArray} {p most : Nat} {more : List UInt8} (hp : p ≤ b.size) (h : rest b p = Pk.enc S.size ++ S.data.toList ++ more) (hS : S.size ≤ most) (hS' : S.size ≤ 140737488351232) :
    textK b p most = 0 ∧ textV b p = S ∧ numQ b p + numV b p = p + (Pk.enc S.size ++ S.data.toList).length := by
  have h' : rest b p = Pk.enc S.size ++ (S.data.toList ++ more) := by rw [h, List.append_assoc]
  obtain ⟨k0, v0, q0⟩ := num_at (most := most) (above := 23) h' (by omega) hS
  have hl := congrArg List.length h
  have hSl : S.data.toList.length = S.size := rfl
  rw [rest_len, List.length_append, List.length_append, hSl] at hl
  rw [List.length_append, hSl]
  refine ⟨?_, ?_, by rw [q0, v0]; omega⟩
  · unfold textK
    rw [k0, if_neg (by simp), if_neg (by rw [q0, v0]; omega)]
  · unfold textV
    rw [extract_eq, v0, q0]
    have e : rest b (p + (Pk.enc S.size).length) = S.data.toList ++ more := by
      unfold rest at h' ⊢
      rw [← List.drop_drop, h', List.drop_left' rfl]
    rw [e, List.take_left' hSl]
namespace Wr
/-- a field's value within what may be read -/
def fits (lim : L → Nat) : L → V → Prop
  | .R, v => 0 ≤ v.i ∧ v.i.toNat ≤ lim .R ∧ v.n < 18446744073709551616
  | .T, v => v.t.size ≤ lim .T
  | .P, v => v.t.size ≤ lim .P
  | l, v => 0 ≤ v.i ∧ v.i.toNat ≤ lim l
theorem rdN_at {b : ByteArray} {lim p N : Nat} {more : List UInt8} (h : rest b p = Pk.enc N ++ more) (hN : N ≤ lim) (hl : lim < 18446744073709551616) : rdN b lim p 0 = (N, p + (Pk.enc N).length, 0) := by
  obtain ⟨k0, v0, q0⟩ := num_at (most := lim) (above := 21) h (by omega) hN
  unfold rdN; rw [if_neg (by simp), if_pos k0, v0, q0]
theorem rest_next {b : ByteArray} {p : Nat} {a more : List UInt8} (h : rest b p = a ++ more) : rest b (p + a.length) = more := by
  unfold rest at h ⊢; rw [← List.drop_drop, h, List.drop_left' rfl]
theorem rest_in {b : ByteArray} {p : Nat} {a more : List UInt8} (hp : p ≤ b.size) (h : rest b p = a ++ more) : p + a.length ≤ b.size := by
  have := congrArg List.length h
  rw [rest_len, List.length_append] at this; omega
theorem rd_there {b : ByteArray} {lim : L → Nat} (hlim : ∀ l, lim l ≤ 140737488351232) {l : L} {v : V} {p : Nat} {more : List UInt8} (hp : p ≤ b.size) (h : rest b p = lay l v ++ more) (hv : fits lim l v) (hn : nrm l v = v) :
    rd b lim l p 0 = (v, p + (lay l v).length, 0) := by
  have hl := hlim l
  cases l
  case R =>
    obtain ⟨h0, h1, h2⟩ := hv
    have h' : rest b p = Pk.enc v.i.toNat ++ (Pk.big8 v.n ++ more) := by rw [h]; simp [lay]
    have hN := rdN_at (lim := lim .R) h' h1 (by omega)
    obtain ⟨k0, v0⟩ := bits_at (rest_in hp h') (rest_next h') h2
    unfold rd
    simp only [hN]
    unfold rdB
    rw [if_neg (by simp), if_pos k0, v0]
    refine Prod.ext ?_ (Prod.ext ?_ rfl)
    · rw [← hn]; simp [nrm, Int.toNat_of_nonneg h0]
    · simp only [lay, List.length_append]; rw [show (Pk.big8 v.n).length = 8 from rfl]; omega
  case T =>
    have h' : rest b p = Pk.enc v.t.size ++ v.t.data.toList ++ more := h
    obtain ⟨k0, v0, q0⟩ := text_at (most := lim .T) hp h' hv (Nat.le_trans hv hl)
    unfold rd rdT
    simp only [ne_eq, not_true_eq_false, if_false, k0, if_true, v0, q0]
    rw [← hn]; rfl
  case P =>
    have h' : rest b p = Pk.enc v.t.size ++ v.t.data.toList ++ more := h
    obtain ⟨k0, v0, q0⟩ := text_at (most := lim .P) hp h' hv (Nat.le_trans hv hl)
    unfold rd rdT
    simp only [ne_eq, not_true_eq_false, if_false, k0, if_true, v0, q0]
    rw [← hn]; rfl
  all_goals
    obtain ⟨h0, h1⟩ := hv
    have hN := rdN_at h h1 (by omega)
    unfold rd
    simp only [hN]
    refine Prod.ext ?_ rfl
    rw [← hn]; simp [nrm, Int.toNat_of_nonneg h0]
theorem rds_there {b : ByteArray} {lim : L → Nat} (hlim : ∀ l, lim l ≤ 140737488351232) (n : Ms) (more : List UInt8) (ls : List L) : ∀ p m, ls.Nodup → p ≤ b.size → rest b p = body n ls ++ more → (∀ l ∈ ls, fits lim l (get l n)) →
    (rds b lim ls p 0 m).1 = p + (body n ls).length ∧ (rds b lim ls p 0 m).2.1 = 0 ∧ (rds b lim ls p 0 m).2.2.k = m.k ∧ (∀ l ∈ ls, get l (rds b lim ls p 0 m).2.2 = get l n) ∧ ∀ l, l ∉ ls → get l (rds b lim ls p 0 m).2.2 = get l m := by
  induction ls with
  | nil => intro p m _ _ _ _; simp [rds, body]
  | cons l ls ih =>
    intro p m hn hp h hf
    obtain ⟨hl, hn⟩ := List.nodup_cons.mp hn
    have hb : body n (l :: ls) = lay l (get l n) ++ body n ls := by simp [body]
    have h' : rest b p = lay l (get l n) ++ (body n ls ++ more) := by rw [h, hb, List.append_assoc]
    have h1 := rd_there hlim hp h' (hf l List.mem_cons_self) (nrm_get l n)
    obtain ⟨i1, i2, i3, i4, i5⟩ := ih (p + (lay l (get l n)).length) (set l (get l n) m) hn (rest_in hp h') (rest_next h') (fun l' h => hf l' (List.mem_cons_of_mem _ h))
    simp only [rds, h1]
    refine ⟨by rw [i1, hb, List.length_append]; omega, i2, by rw [i3, k_set], ?_, ?_⟩
    · intro l' h'
      rcases List.mem_cons.mp h' with rfl | h'
      · rw [i5 _ hl, get_set, nrm_get]
      · exact i4 _ h'
    · intro l' h'
      rw [List.mem_cons, not_or] at h'
      rw [i5 _ h'.2, get_ne (fun e => h'.1 e.symm)]

theorem rdN_dead {b : ByteArray} {lim p f : Nat} (h : f ≠ 0) : rdN b lim p f = (0, p, f) := if_pos h
theorem rdT_dead {b : ByteArray} {lim p f : Nat} (h : f ≠ 0) : rdT b lim p f = (e0, p, f) := if_pos h
theorem rdB_dead {b : ByteArray} {p f : Nat} (h : f ≠ 0) : rdB b p f = (0, p, f) := if_pos h
theorem rd_dead {b : ByteArray} {lim : L → Nat} {l : L} {p f : Nat} (h : f ≠ 0) : rd b lim l p f = (zV, p, f) := by
  cases l <;> simp only [rd, rdN_dead h, rdT_dead h, rdB_dead h] <;> rfl
theorem rdN_form {b : ByteArray} {lim p : Nat} (hp : p ≤ b.size) (h : (rdN b lim p 0).2.2 = 0) :
    (rdN b lim p 0).2.1 ≤ b.size ∧ (rdN b lim p 0).1 ≤ lim ∧ b.data.toList.take (rdN b lim p 0).2.1 = b.data.toList.take p ++ Pk.enc (rdN b lim p 0).1 := by
  unfold rdN at h ⊢
  rw [if_neg (by simp)] at h ⊢
  by_cases h1 : numK b p lim 21 = 0
  · rw [if_pos h1]
    obtain ⟨q, a1, a2, a3, a4⟩ := num_form hp (by decide) h1
    exact ⟨a1, a2, a4⟩
  · rw [if_neg h1] at h; exact absurd h h1
theorem rdT_form {b : ByteArray} {lim p : Nat} (hp : p ≤ b.size) (h : (rdT b lim p 0).2.2 = 0) :
    (rdT b lim p 0).2.1 ≤ b.size ∧ b.data.toList.take (rdT b lim p 0).2.1 = b.data.toList.take p ++ (Pk.enc (rdT b lim p 0).1.size ++ (rdT b lim p 0).1.data.toList) := by
  unfold rdT at h ⊢
  rw [if_neg (by simp)] at h ⊢
  by_cases h1 : textK b p lim = 0
  · rw [if_pos h1]
    obtain ⟨a1, a2, a3, a4, a5⟩ := text_form hp h1
    exact ⟨a1, a5⟩
  · rw [if_neg h1] at h; exact absurd h h1
theorem rdB_form {b : ByteArray} {p : Nat} (h : (rdB b p 0).2.2 = 0) :
    (rdB b p 0).2.1 ≤ b.size ∧ (rdB b p 0).1 < 18446744073709551616 ∧ b.data.toList.take (rdB b p 0).2.1 = b.data.toList.take p ++ Pk.big8 (rdB b p 0).1 := by
  unfold rdB at h ⊢
  rw [if_neg (by simp)] at h ⊢
  by_cases h1 : bitsK b p = 0
  · rw [if_pos h1]
    obtain ⟨a1, a2, a3, a4⟩ := bits_form h1
    exact ⟨a1, a2, a4⟩
  · rw [if_neg h1] at h; exact absurd h h1
theorem rd_form {b : ByteArray} {lim : L → Nat} {l : L} {p : Nat} (hp : p ≤ b.size) (h : (rd b lim l p 0).2.2 = 0) :
    (rd b lim l p 0).2.1 ≤ b.size ∧ nrm l (rd b lim l p 0).1 = (rd b lim l p 0).1 ∧ b.data.toList.take (rd b lim l p 0).2.1 = b.data.toList.take p ++ lay l (rd b lim l p 0).1 := by
  cases l
  case R =>
    simp only [rd] at h ⊢
    by_cases h1 : (rdN b (lim .R) p 0).2.2 = 0
    · obtain ⟨a1, a2, a3⟩ := rdN_form hp h1
      rw [h1] at h ⊢
      obtain ⟨c1, c2, c3⟩ := rdB_form h
      refine ⟨c1, rfl, ?_⟩
      rw [c3, a3, List.append_assoc]; simp [lay]
    · rw [rdB_dead h1] at h; exact absurd h h1
  case T => obtain ⟨a1, a2⟩ := rdT_form hp h; exact ⟨a1, rfl, a2⟩
  case P => obtain ⟨a1, a2⟩ := rdT_form hp h; exact ⟨a1, rfl, a2⟩
  all_goals
    obtain ⟨a1, a2, a3⟩ := rdN_form hp h
    refine ⟨a1, rfl, ?_⟩
    exact a3
theorem rds_dead (b : ByteArray) (lim : L → Nat) (ls : List L) : ∀ p f m, f ≠ 0 → (rds b lim ls p f m).2.1 = f ∧ (rds b lim ls p f m).1 = p := by
  induction ls with
  | nil => intro p f m _; exact ⟨rfl, rfl⟩
  | cons l ls ih => intro p f m hf; simp only [rds, rd_dead hf]; exact ih _ _ _ hf
theorem rds_form (b : ByteArray) (lim : L → Nat) (ls : List L) : ∀ p m, ls.Nodup → p ≤ b.size → (rds b lim ls p 0 m).2.1 = 0 →
    (rds b lim ls p 0 m).1 ≤ b.size ∧ b.data.toList.take (rds b lim ls p 0 m).1 = b.data.toList.take p ++ body (rds b lim ls p 0 m).2.2 ls ∧ (rds b lim ls p 0 m).2.2.k = m.k ∧ ∀ l, l ∉ ls → get l (rds b lim ls p 0 m).2.2 = get l m := by
  induction ls with
  | nil => intro p m _ hp _; simp [rds, body, hp]
  | cons l ls ih =>
    intro p m hn hp h
    obtain ⟨hl, hn⟩ := List.nodup_cons.mp hn
    simp only [rds] at h ⊢
    by_cases h1 : (rd b lim l p 0).2.2 = 0
    · obtain ⟨a1, a2, a3⟩ := rd_form hp h1
      rw [h1] at h ⊢
      obtain ⟨i1, i2, i3, i4⟩ := ih _ _ hn a1 h
      refine ⟨i1, ?_, by rw [i3, k_set], ?_⟩
      · rw [i2, a3, List.append_assoc]
        congr 1
        simp only [body, List.flatMap_cons]
        rw [i4 _ hl, get_set, a2]
      · intro l' h'
        rw [List.mem_cons, not_or] at h'
        rw [i4 _ h'.2, get_ne (fun e => h'.1 e.symm)]
    · exact absurd ((rds_dead b lim ls _ _ _ h1).1.symm.trans h) h1
end Wr
end Go.Proofs.YtkfnedhllfdghaaGreatDoor.W
end

section
namespace Go.Proofs.YtkfnedhllfdghaaGreatDoor.W
set_option maxRecDepth 20000
namespace Wr
/-- what a reader says at its end -/
def endK (b : ByteArray) (p f : Nat) : Nat := if f ≠ 0 then f else if p < b.size then 24 else 0
/-- Decode, with what it lets a field be at most -/
def decode (lim : Int → L → Nat) (b : ByteArray) : Ms × Nat :=
  if 2048 < b.size then (zM 0, 73) else
  let h := rdN b 16 0 0
  let r := rds b (lim h.1) (letters h.1) h.2.1 h.2.2 (zM h.1)
  if endK b r.1 r.2.1 ≠ 0 ∨ check r.2.2 ≠ 0 then (zM 0, 72) else (r.2.2, 0)
structure Lim (lim : Int → L → Nat) : Prop where
  hi : ∀ k l, lim k l ≤ 140737488351232
  lo : ∀ k l, most k l ≤ lim k l
theorem fits_may {lim : Int → L → Nat} (hl : Lim lim) {m : Ms} (hb : m.rb < 18446744073709551616) {l : L} (h : may m.k l (get l m) = true) : fits (lim m.k) l (get l m) := by
  have hlo := hl.lo m.k l
  unfold may at h
  rw [Bool.and_eq_true, decide_eq_true_eq] at h
  obtain ⟨⟨h1, h2⟩, _⟩ := h
  cases l <;> simp only [fits, least, sz, get] at * <;> omega
theorem rest_zero (b : ByteArray) : rest b 0 = b.data.toList := rfl
theorem size_list (b : ByteArray) : b.size = b.data.toList.length := rfl
/-- reading a message's bytes, with more behind them -/
theorem reads_there {lim : Int → L → Nat} (hl : Lim lim) {m : Ms} (hb : m.rb < 18446744073709551616) (hc : check m = 0) {b : ByteArray} {more : List UInt8} (h : b.data.toList = bytes m ++ more) :
    rdN b 16 0 0 = (m.k.toNat, (Pk.enc m.k.toNat).length, 0) ∧ rds b (lim m.k) (letters m.k) (Pk.enc m.k.toNat).length 0 (zM m.k) = ((bytes m).length, 0, m) := by
  obtain ⟨⟨k1, k2⟩, _, h3, h4⟩ := (check_iff m).mp hc
  have h0 : rest b 0 = Pk.enc m.k.toNat ++ (body m (letters m.k) ++ more) := by rw [rest_zero, h, bytes, List.append_assoc]
  have e1 := rdN_at (lim := 16) h0 (by omega) (by decide)
  rw [Nat.zero_add] at e1
  refine ⟨e1, ?_⟩
  have e2 := rest_next h0
  have e3 := rest_in (Nat.zero_le _) h0
  rw [Nat.zero_add] at e2 e3
  obtain ⟨i1, i2, i3, i4, i5⟩ := rds_there (hl.hi m.k) m more (letters m.k) _ (zM m.k) (letters_nodup _) e3 e2 (fun l h => fits_may hl hb (h3 l h))
  refine Prod.ext (by rw [i1, bytes, List.length_append]) (Prod.ext i2 (ms_ext (by rw [i3]; rfl) fun l => ?_))
  by_cases hl : l ∈ letters m.k
  · exact i4 l hl
  · rw [i5 l hl, get_z, h4 l hl]
theorem decode_there {lim : Int → L → Nat} (hl : Lim lim) {m : Ms} (hb : m.rb < 18446744073709551616) (hc : check m = 0) {b : ByteArray} (hs : b.size ≤ 2048) (h : b.data.toList = bytes m) : decode lim b = (m, 0) := by
  obtain ⟨⟨k1, k2⟩, _⟩ := (check_iff m).mp hc
  obtain ⟨e1, e2⟩ := reads_there hl hb hc (more := []) (by rw [h, List.append_nil])
  unfold decode
  rw [if_neg (by omega)]
  simp only [e1, Int.toNat_of_nonneg (show 0 ≤ m.k by omega), e2]
  rw [if_neg]
  rw [not_or, Decidable.not_not, Decidable.not_not]
  exact ⟨by unfold endK; rw [if_neg (by simp), if_neg (by rw [size_list, h]; omega)], hc⟩
theorem rdB_lt (b : ByteArray) (p f : Nat) : (rdB b p f).1 < 18446744073709551616 := by
  unfold rdB
  by_cases h : f ≠ 0
  · rw [if_pos h]; exact (by decide : (0 : Nat) < 18446744073709551616)
  · rw [if_neg h]
    by_cases h1 : bitsK b p = 0
    · rw [if_pos h1]; exact (bits_form h1).2.1
    · rw [if_neg h1]; exact (by decide : (0 : Nat) < 18446744073709551616)
theorem rds_rb (b : ByteArray) (lim : L → Nat) (ls : List L) : ∀ p f m, m.rb < 18446744073709551616 → (rds b lim ls p f m).2.2.rb < 18446744073709551616 := by
  induction ls with
  | nil => intro p f m h; exact h
  | cons l ls ih =>
    intro p f m h
    simp only [rds]
    apply ih
    cases l
    case R => exact rdB_lt _ _ _
    all_goals exact h
theorem rdN_le (b : ByteArray) (lim p f : Nat) (hp : p ≤ b.size) : (rdN b lim p f).1 ≤ lim ∧ (rdN b lim p f).2.1 ≤ b.size := by
  by_cases hf : f ≠ 0
  · rw [rdN_dead hf]; exact ⟨Nat.zero_le _, hp⟩
  · rw [Decidable.not_not] at hf; subst hf
    by_cases h : (rdN b lim p 0).2.2 = 0
    · obtain ⟨a1, a2, _⟩ := rdN_form hp h; exact ⟨a2, a1⟩
    · unfold rdN at h ⊢
      rw [if_neg (by simp)] at h ⊢
      by_cases h1 : numK b p lim 21 = 0
      · rw [if_pos h1] at h; exact absurd rfl h
      · rw [if_neg h1]; exact ⟨Nat.zero_le _, hp⟩
theorem decode_form {lim : Int → L → Nat} {b : ByteArray} {m : Ms} (h : decode lim b = (m, 0)) : b.size ≤ 2048 ∧ check m = 0 ∧ b.data.toList = bytes m ∧ m.rb < 18446744073709551616 := by
  unfold decode at h
  by_cases h1 : 2048 < b.size
  · rw [if_pos h1] at h; exact absurd (congrArg Prod.snd h) (by decide : ¬ (73 : Nat) = 0)
  · rw [if_neg h1] at h
    simp only at h
    split at h
    · exact absurd (congrArg Prod.snd h) (by decide : ¬ (72 : Nat) = 0)
    · rename_i hn
      rw [not_or, Decidable.not_not, Decidable.not_not] at hn
      obtain ⟨hE, hc⟩ := hn
      have hm := congrArg Prod.fst h
      simp only at hm
      have hf0 : (rdN b 16 0 0).2.2 = 0 := by
        by_cases hz : (rdN b 16 0 0).2.2 = 0
        · exact hz
        · exfalso
          have := (rds_dead b (lim (rdN b 16 0 0).1) (letters (rdN b 16 0 0).1) (rdN b 16 0 0).2.1 (rdN b 16 0 0).2.2 (zM (rdN b 16 0 0).1) hz).1
          unfold endK at hE
          rw [this, if_pos hz] at hE
          exact hz hE
      obtain ⟨a1, a2, a3⟩ := rdN_form (Nat.zero_le _) hf0
      rw [hf0] at hE hc hm
      have hf1 : (rds b (lim (rdN b 16 0 0).1) (letters (rdN b 16 0 0).1) (rdN b 16 0 0).2.1 0 (zM (rdN b 16 0 0).1)).2.1 = 0 := by
        unfold endK at hE
        by_cases hz : (rds b (lim (rdN b 16 0 0).1) (letters (rdN b 16 0 0).1) (rdN b 16 0 0).2.1 0 (zM (rdN b 16 0 0).1)).2.1 = 0
        · exact hz
        · rw [if_pos hz] at hE; exact absurd hE hz
      obtain ⟨i1, i2, i3, i4⟩ := rds_form b _ _ _ _ (letters_nodup _) a1 hf1
      have hp : ¬ (rds b (lim (rdN b 16 0 0).1) (letters (rdN b 16 0 0).1) (rdN b 16 0 0).2.1 0 (zM (rdN b 16 0 0).1)).1 < b.size := by
        intro hlt
        unfold endK at hE
        rw [hf1, if_neg (by simp), if_pos hlt] at hE
        cases hE
      have hrb := rds_rb b (lim (rdN b 16 0 0).1) (letters (rdN b 16 0 0).1) (rdN b 16 0 0).2.1 0 (zM (rdN b 16 0 0).1) (show (0 : Nat) < _ by decide)
      rw [hm] at i2 i3 hc hrb
      refine ⟨by omega, hc, ?_, hrb⟩
      have hk : m.k = ((rdN b 16 0 0).1 : Int) := i3
      rw [a3, List.take_of_length_le (by rw [← size_list]; omega)] at i2
      rw [i2, bytes, hk]
      simp
theorem decode_or (lim : Int → L → Nat) (b : ByteArray) : (2048 < b.size ∧ decode lim b = (zM 0, 73)) ∨ (b.size ≤ 2048 ∧ (decode lim b = (zM 0, 72) ∨ ∃ m, decode lim b = (m, 0))) := by
  unfold decode
  by_cases h1 : 2048 < b.size
  · rw [if_pos h1]; exact .inl ⟨h1, rfl⟩
  · rw [if_neg h1]
    refine .inr ⟨by omega, ?_⟩
    simp only
    split
    · exact .inl rfl
    · exact .inr ⟨_, rfl⟩
theorem decode_eq {lim lim' : Int → L → Nat} (h : Lim lim) (h' : Lim lim') (b : ByteArray) : decode lim b = decode lim' b := by
  rcases decode_or lim b with ⟨a, e⟩ | ⟨a, e⟩ <;> rcases decode_or lim' b with ⟨a', e'⟩ | ⟨a', e'⟩
  · rw [e, e']
  · omega
  · omega
  · rcases e with e | ⟨m, e⟩
    · rcases e' with e' | ⟨m', e'⟩
      · rw [e, e']
      · obtain ⟨f1, f2, f3, f4⟩ := decode_form e'
        rw [decode_there h f4 f2 f1 f3] at e
        exact absurd (congrArg Prod.snd e) (by decide : ¬ (0 : Nat) = 72)
    · obtain ⟨f1, f2, f3, f4⟩ := decode_form e
      rw [e, decode_there h' f4 f2 f1 f3]
/-- a message's bytes are no beginning of another one's -/
theorem bytes_apart {m n : Ms} (hm : check m = 0) (hn : check n = 0) (bm : m.rb < 18446744073709551616) (bn : n.rb < 18446744073709551616) {more : List UInt8} (h : bytes m = bytes n ++ more) : m = n ∧ more = [] := by
  have hl : Lim fun _ _ => 1099511627776 := ⟨fun _ _ => by decide, fun k l => by cases l <;> simp only [most] <;> (try split) <;> decide⟩
  have e : (⟨(bytes m).toArray⟩ : ByteArray).data.toList = bytes m ++ [] := by simp
  have e' : (⟨(bytes m).toArray⟩ : ByteArray).data.toList = bytes n ++ more := by simp [h]
  obtain ⟨a1, a2⟩ := reads_there hl bm hm e
  obtain ⟨b1, b2⟩ := reads_there hl bn hn e'
  obtain ⟨⟨k1, k2⟩, _⟩ := (check_iff m).mp hm
  obtain ⟨⟨l1, l2⟩, _⟩ := (check_iff n).mp hn
  have hk : m.k = n.k := by
    have := congrArg Prod.fst (a1.symm.trans b1)
    simp only at this
    omega
  rw [hk] at a2
  have := a2.symm.trans b2
  have h1 := congrArg Prod.fst this
  have h2 := congrArg (fun x => x.2.2) this
  simp only at h1 h2
  refine ⟨h2, ?_⟩
  have hlen := congrArg List.length h
  rw [List.length_append] at hlen
  exact List.eq_nil_of_length_eq_zero (by omega)
def bd : L → Nat
  | .R => 18 | .T => 42 | .P => 1034 | _ => 10
theorem lay_bd {m : Ms} {l : L} (h : may m.k l (get l m) = true) : (lay l (get l m)).length ≤ bd l := by
  unfold may at h
  rw [Bool.and_eq_true, decide_eq_true_eq] at h
  obtain ⟨⟨h1, h2⟩, _⟩ := h
  cases l <;> simp only [lay, least, most, sz, get, bd, List.length_append] at *
  case R => have := Pk.enc_ten (n := m.rc.toNat) (by omega); rw [show (Pk.big8 m.rb).length = 8 from rfl]; omega
  case T => have := Pk.enc_ten (n := m.tx.size) (by omega); rw [← size_list]; omega
  case P => have := Pk.enc_ten (n := m.pr.size) (by omega); rw [← size_list]; omega
  case I => exact Pk.enc_ten (by split at h2 <;> omega)
  case C => exact Pk.enc_ten (by split at h2 <;> omega)
  all_goals exact Pk.enc_ten (by omega)
theorem body_bd (m : Ms) (ls : List L) (h : ∀ l ∈ ls, may m.k l (get l m) = true) : (body m ls).length ≤ (ls.map bd).sum := by
  induction ls with
  | nil => simp [body]
  | cons l ls ih =>
    have h1 := lay_bd (h l List.mem_cons_self)
    have h2 := ih (fun l' h' => h l' (List.mem_cons_of_mem _ h'))
    simp only [body, List.flatMap_cons, List.length_append, List.map_cons, List.sum_cons] at *
    omega
theorem bd_ite {c : Prop} [Decidable c] {a b : List L} (ha : (a.map bd).sum ≤ 2000) (hb : (b.map bd).sum ≤ 2000) : ((if c then a else b).map bd).sum ≤ 2000 := by
  by_cases h : c
  · rw [if_pos h]; exact ha
  · rw [if_neg h]; exact hb
theorem letters_bd (k : Int) : ((letters k).map bd).sum ≤ 2000 := by
  unfold letters
  repeat (refine bd_ite (by decide) ?_)
  decide
theorem bytes_len {m : Ms} (hm : check m = 0) : (bytes m).length ≤ 2048 := by
  obtain ⟨⟨k1, k2⟩, _, h, _⟩ := (check_iff m).mp hm
  have h1 := body_bd m _ h
  have h2 := letters_bd m.k
  have h3 := Pk.enc_ten (n := m.k.toNat) (by omega)
  rw [bytes, List.length_append]
  omega
theorem bytes_head {m : Ms} (hm : check m = 0) : ∃ t, bytes m = UInt8.ofNat m.k.toNat :: t := by
  obtain ⟨⟨k1, k2⟩, _⟩ := (check_iff m).mp hm
  exact ⟨body m (letters m.k), by rw [bytes, Pk.enc_lt (by omega)]; rfl⟩
end Wr
end Go.Proofs.YtkfnedhllfdghaaGreatDoor.W
end

section
namespace Go.Proofs.YtkfnedhllfdghaaGreatDoor
set_option maxRecDepth 20000
open Go.RowKit

set_option maxHeartbeats 800000 in
set_option maxRecDepth 8000 in
theorem qnum_any (n : Nat) (hn : n < 18446744073709551616) (w : World) :
    Calls Tryz.prog 137 #[.int .u64 (n : Int)] w fun e w' => e = .returned (.string ⟨(Pk.enc n).toArray⟩) ∧ Below w.heap.size w w' := by
  obtain ⟨i0, hi, hz0, hz1, hz2⟩ := info_parts Tryz.infoB
  go_enter Tryz.func137, Tryz.ntmps137
  go_wp2
  go_loopw [0, 3] (fun u v wr => ∃ (m : Nat) (pre : List UInt8), u = .int .u64 (m : Int) ∧ m ≤ n ∧ Hid (Pk.enc n = pre ++ Pk.enc m) ∧ wr.ownsRow w.heap.size 5 1 v pre.length (bc pre) ∧ Below w.heap.size w wr) (fun u _ _ => (intOf u).toNat)
  case atStart => exact ⟨n, [], rfl, Nat.le_refl _, rfl, World.ownsRow_made w #[] 0 (Nat.le_refl _) (by decide) rfl, below_alloc _ _⟩
  case round =>
    obtain ⟨m, pre, rfl, hm, HE, hown, hbel⟩ := hrel
    have hlen := Pk.enc_ten hn
    rw [HE.out, List.length_append] at hlen
    have hpos := Pk.enc_pos m
    by_cases h128 : m < 128
    · have b0 : decide ((128 : Int) ≤ (m : Int)) = false := by simp; omega
      have HN : Hid (bc (Pk.enc n) = bc pre ++ [.int .u8 (m : Int)]) := (show bc (Pk.enc n) = _ by
        rw [HE.out, bc_append, Pk.enc_lt h128]; simp only [bc, List.map_cons, List.map_nil]; rw [Pk.toNat_ofNat (by omega)])
      have HM : Hid (pre.length + 1 = (Pk.enc n).length) := (show pre.length + 1 = _ by rw [HE.out, List.length_append, Pk.enc_lt h128]; rfl)
      go_wp2_with (first
        | (at_builtin; refine wpList_append_own _ rfl _ _ 212 rfl w.heap.size 5 i0 (.int .u8 0) 1 1 Tryz.underlying212 hi hz0 hz1 hz2 rfl (by decide) _ _ _ rfl (hown.alloc _) ⟨wr.heap.size, 0, none⟩ 1 1 [.int .u8 (m : Int)] rfl rfl (one_new _ _ _) (by intro u hu; simp at hu; subst hu; rfl) (by unfold maxLen; omega) (by omega) (by have := hbel.size; simp; omega) ?_; intro v' w1 hown' hgrow hnil; clear hnil; have hcv : (convert 212 9 v').run Tryz.prog w1 = .ok (.string ⟨(Pk.enc n).toArray⟩) w1 := own_str (base := w.heap.size) (by rw [← HM.out, HN.out]; exact hown'); have hb1 : Below w.heap.size w w1 := grow_below (Nat.le_refl _) hbel hown _ hgrow; clear hown' hgrow hown hbel)
        | go_in)
      go_ret
      exact ⟨rfl, hb1⟩
    · have b0 : decide ((128 : Int) ≤ (m : Int)) = true := by simp; omega
      have HE' : Hid (Pk.enc n = (pre ++ [UInt8.ofNat (m % 128 + 128)]) ++ Pk.enc (m / 128)) := (show Pk.enc n = _ by rw [HE.out, Pk.enc_ge h128]; simp)
      have HN : Hid (bc (pre ++ [UInt8.ofNat (m % 128 + 128)]) = bc pre ++ [.int .u8 ((m : Int) % 128 + 128)]) := (show bc _ = _ by
        rw [bc_append]; simp only [bc, List.map_cons, List.map_nil]; rw [Pk.toNat_ofNat (by omega)]; rfl)
      go_wp2_with (first
        | (at_builtin; refine wpList_append_own _ rfl _ _ 212 rfl w.heap.size 5 i0 (.int .u8 0) 1 1 Tryz.underlying212 hi hz0 hz1 hz2 rfl (by decide) _ _ _ rfl (hown.alloc _) ⟨wr.heap.size, 0, none⟩ 1 1 [.int .u8 ((m : Int) % 128 + 128)] rfl rfl (one_new _ _ _) (by intro u hu; simp at hu; subst hu; rfl) (by unfold maxLen; omega) (by omega) (by have := hbel.size; simp; omega) ?_; intro v' w1 hown' hgrow hnil; clear hnil; have HB1 : Hid (Below w.heap.size w w1) := grow_below (Nat.le_refl _) hbel hown _ hgrow)
        | go_in)
      refine ⟨⟨m / 128, pre ++ [UInt8.ofNat (m % 128 + 128)], by go_num, by omega, HE', ?_, HB1.out⟩, by simp [intOf]; omega⟩
      rw [HN.out, List.length_append]
      exact hown'

set_option maxHeartbeats 400000 in
theorem qtext_any (s : ByteArray) (hs : s.size ≤ 140737488351232) (w : World) :
    Calls Tryz.prog 139 #[.string s] w fun e w' => e = .returned (.string ((⟨(Pk.enc s.size).toArray⟩ : ByteArray) ++ s)) ∧ Below w.heap.size w w' := by
  have hlen := Pk.enc_ten (n := s.size) (by omega)
  have hadd : ∀ w1 : World, (Op.stringOp .add ⟨(Pk.enc s.size).toArray⟩ s).run Tryz.prog w1 = .ok (.string ((⟨(Pk.enc s.size).toArray⟩ : ByteArray) ++ s)) w1 := fun w1 =>
    run_string_add_sum w1 _ _ (by show (Pk.enc s.size).toArray.size + s.size ≤ _; simp; omega)
  generalize (⟨(Pk.enc s.size).toArray⟩ : ByteArray) ++ s = t at *
  go_enter Tryz.func139, Tryz.ntmps139
  go_wp2_with (go_at_call 137; refine (qnum_any s.size (by omega) _).mono ?_; rintro e w' ⟨rfl, hb⟩)
  go_ret
  exact ⟨rfl, hb⟩
end Go.Proofs.YtkfnedhllfdghaaGreatDoor
end

section
namespace Go.Proofs.YtkfnedhllfdghaaGreatDoor
set_option maxRecDepth 20000
open Go.RowKit

theorem big8_bc (n : Nat) (hn : n < 18446744073709551616) : bc (Pk.big8 n) = [.int .u8 ((n : Int) / 72057594037927936), .int .u8 ((n : Int) / 281474976710656 % 256), .int .u8 ((n : Int) / 1099511627776 % 256), .int .u8 ((n : Int) / 4294967296 % 256), .int .u8 ((n : Int) / 16777216 % 256), .int .u8 ((n : Int) / 65536 % 256), .int .u8 ((n : Int) / 256 % 256), .int .u8 ((n : Int) % 256)] := by
  have e : ∀ x : Nat, (UInt8.ofNat (x % 256)).toNat = x % 256 := fun x => Pk.toNat_ofNat (Nat.mod_lt _ (by decide))
  simp only [bc, Pk.big8, List.map_cons, List.map_nil, e]
  have e0 : ((n / 72057594037927936 % 256 : Nat) : Int) = (n : Int) / 72057594037927936 := by omega
  rw [e0]
  rfl

set_option maxHeartbeats 1600000 in
set_option maxRecDepth 8000 in
theorem qbits_any (n : Nat) (hn : n < 18446744073709551616) (w : World) :
    Calls Tryz.prog 138 #[.int .u64 (n : Int)] w fun e w' => e = .returned (.string ⟨(Pk.big8 n).toArray⟩) ∧ Below w.heap.size w w' := by
  obtain ⟨i0, hi, hz0, hz1, hz2⟩ := info_parts Tryz.infoB
  have HBC : Hid (bc (Pk.big8 n) = [.int .u8 ((n : Int) / 72057594037927936), .int .u8 ((n : Int) / 281474976710656 % 256), .int .u8 ((n : Int) / 1099511627776 % 256), .int .u8 ((n : Int) / 4294967296 % 256), .int .u8 ((n : Int) / 16777216 % 256), .int .u8 ((n : Int) / 65536 % 256), .int .u8 ((n : Int) / 256 % 256), .int .u8 ((n : Int) % 256)]) := big8_bc n hn
  go_enter Tryz.func138, Tryz.ntmps138
  go_wp2
  have hown0 : (w.alloc (.cells #[] 5)).ownsRow w.heap.size 5 1 (.slice (some ⟨w.heap.size, 0, none⟩) 0 0) 0 [] := World.ownsRow_made w #[] 0 (Nat.le_refl _) (by decide) rfl
  have hb0 : Below w.heap.size w (w.alloc (.cells #[] 5)) := below_alloc _ _
  generalize hw0 : w.alloc (.cells #[] 5) = w0 at *
  clear hw0
  refine wp_loop_rounds 9 ?_
  rw [rounds_succ]
  go_wp2_with (first
    | (at_builtin; refine wpList_append_own _ rfl _ _ 212 rfl w.heap.size 5 i0 (.int .u8 0) 1 1 Tryz.underlying212 hi hz0 hz1 hz2 rfl (by decide) _ _ _ rfl (hown0.alloc _) ⟨w0.heap.size, 0, none⟩ 1 1 [.int .u8 ((n : Int) / 72057594037927936)] rfl rfl (one_new _ _ _) (by intro u hu; simp at hu; subst hu; rfl) (by decide) (by decide) (by have := hb0.size; simp; omega) ?_; intro v1 w1 hown1 hgrow hnil; clear hnil; have hb1 : Below w.heap.size w w1 := grow_below (Nat.le_refl _) hb0 hown0 _ hgrow; clear hgrow hb0 hown0)
    | go_in)
  rw [rounds_succ]
  go_wp2_with (first
    | (at_builtin; refine wpList_append_own _ rfl _ _ 212 rfl w.heap.size 5 i0 (.int .u8 0) 1 1 Tryz.underlying212 hi hz0 hz1 hz2 rfl (by decide) _ _ _ rfl (hown1.alloc _) ⟨w1.heap.size, 0, none⟩ 1 1 [.int .u8 ((n : Int) / 281474976710656 % 256)] rfl rfl (one_new _ _ _) (by intro u hu; simp at hu; subst hu; rfl) (by decide) (by decide) (by have := hb1.size; simp; omega) ?_; intro v2 w2 hown2 hgrow hnil; clear hnil; have hb2 : Below w.heap.size w w2 := grow_below (Nat.le_refl _) hb1 hown1 _ hgrow; clear hgrow hb1 hown1)
    | go_in)
  rw [rounds_succ]
  go_wp2_with (first
    | (at_builtin; refine wpList_append_own _ rfl _ _ 212 rfl w.heap.size 5 i0 (.int .u8 0) 1 1 Tryz.underlying212 hi hz0 hz1 hz2 rfl (by decide) _ _ _ rfl (hown2.alloc _) ⟨w2.heap.size, 0, none⟩ 1 1 [.int .u8 ((n : Int) / 1099511627776 % 256)] rfl rfl (one_new _ _ _) (by intro u hu; simp at hu; subst hu; rfl) (by decide) (by decide) (by have := hb2.size; simp; omega) ?_; intro v3 w3 hown3 hgrow hnil; clear hnil; have hb3 : Below w.heap.size w w3 := grow_below (Nat.le_refl _) hb2 hown2 _ hgrow; clear hgrow hb2 hown2)
    | go_in)
  rw [rounds_succ]
  go_wp2_with (first
    | (at_builtin; refine wpList_append_own _ rfl _ _ 212 rfl w.heap.size 5 i0 (.int .u8 0) 1 1 Tryz.underlying212 hi hz0 hz1 hz2 rfl (by decide) _ _ _ rfl (hown3.alloc _) ⟨w3.heap.size, 0, none⟩ 1 1 [.int .u8 ((n : Int) / 4294967296 % 256)] rfl rfl (one_new _ _ _) (by intro u hu; simp at hu; subst hu; rfl) (by decide) (by decide) (by have := hb3.size; simp; omega) ?_; intro v4 w4 hown4 hgrow hnil; clear hnil; have hb4 : Below w.heap.size w w4 := grow_below (Nat.le_refl _) hb3 hown3 _ hgrow; clear hgrow hb3 hown3)
    | go_in)
  rw [rounds_succ]
  go_wp2_with (first
    | (at_builtin; refine wpList_append_own _ rfl _ _ 212 rfl w.heap.size 5 i0 (.int .u8 0) 1 1 Tryz.underlying212 hi hz0 hz1 hz2 rfl (by decide) _ _ _ rfl (hown4.alloc _) ⟨w4.heap.size, 0, none⟩ 1 1 [.int .u8 ((n : Int) / 16777216 % 256)] rfl rfl (one_new _ _ _) (by intro u hu; simp at hu; subst hu; rfl) (by decide) (by decide) (by have := hb4.size; simp; omega) ?_; intro v5 w5 hown5 hgrow hnil; clear hnil; have hb5 : Below w.heap.size w w5 := grow_below (Nat.le_refl _) hb4 hown4 _ hgrow; clear hgrow hb4 hown4)
    | go_in)
  rw [rounds_succ]
  go_wp2_with (first
    | (at_builtin; refine wpList_append_own _ rfl _ _ 212 rfl w.heap.size 5 i0 (.int .u8 0) 1 1 Tryz.underlying212 hi hz0 hz1 hz2 rfl (by decide) _ _ _ rfl (hown5.alloc _) ⟨w5.heap.size, 0, none⟩ 1 1 [.int .u8 ((n : Int) / 65536 % 256)] rfl rfl (one_new _ _ _) (by intro u hu; simp at hu; subst hu; rfl) (by decide) (by decide) (by have := hb5.size; simp; omega) ?_; intro v6 w6 hown6 hgrow hnil; clear hnil; have hb6 : Below w.heap.size w w6 := grow_below (Nat.le_refl _) hb5 hown5 _ hgrow; clear hgrow hb5 hown5)
    | go_in)
  rw [rounds_succ]
  go_wp2_with (first
    | (at_builtin; refine wpList_append_own _ rfl _ _ 212 rfl w.heap.size 5 i0 (.int .u8 0) 1 1 Tryz.underlying212 hi hz0 hz1 hz2 rfl (by decide) _ _ _ rfl (hown6.alloc _) ⟨w6.heap.size, 0, none⟩ 1 1 [.int .u8 ((n : Int) / 256 % 256)] rfl rfl (one_new _ _ _) (by intro u hu; simp at hu; subst hu; rfl) (by decide) (by decide) (by have := hb6.size; simp; omega) ?_; intro v7 w7 hown7 hgrow hnil; clear hnil; have hb7 : Below w.heap.size w w7 := grow_below (Nat.le_refl _) hb6 hown6 _ hgrow; clear hgrow hb6 hown6)
    | go_in)
  rw [rounds_succ]
  go_wp2_with (first
    | (at_builtin; refine wpList_append_own _ rfl _ _ 212 rfl w.heap.size 5 i0 (.int .u8 0) 1 1 Tryz.underlying212 hi hz0 hz1 hz2 rfl (by decide) _ _ _ rfl (hown7.alloc _) ⟨w7.heap.size, 0, none⟩ 1 1 [.int .u8 ((n : Int) % 256)] rfl rfl (one_new _ _ _) (by intro u hu; simp at hu; subst hu; rfl) (by decide) (by decide) (by have := hb7.size; simp; omega) ?_; intro v8 w8 hown8 hgrow hnil; clear hnil; have hb8 : Below w.heap.size w w8 := grow_below (Nat.le_refl _) hb7 hown7 _ hgrow; clear hgrow hb7 hown7)
    | go_in)
  have hcv : (convert 212 9 v8).run Tryz.prog w8 = .ok (.string ⟨(Pk.big8 n).toArray⟩) w8 := own_str (base := w.heap.size) (l := Pk.big8 n) (by rw [HBC.out]; exact hown8)
  clear hown8
  rw [rounds_succ]
  go_wp2
  go_ret
  exact ⟨rfl, hb8⟩

end Go.Proofs.YtkfnedhllfdghaaGreatDoor
end
