import Derived.Test.YtjabnddjahhgoaaRcO
namespace Go.Proofs.Ytjabnddjahhgoaa
open Go.RowKit
open Rc (L V Ch)

/-- a text's reading into a cell -/
def TPost (w : World) (a : Addr) (B : Nat) (b : ByteArray) (x : Option (ByteArray × Nat)) (e : Ending) (w' : World) : Prop :=
  match x with
  | some y => e = .returned (.tuple #[]) ∧ ∃ W, w.grownBy W (some B) ∧ Rd W B b (y.2 : Int) 0 ∧ Below W.heap.size (W.setCell a (.string y.1)) w'
  | none => Gives e 83 ∧ ∃ W S, w.grownBy W (some B) ∧ Below W.heap.size (W.setCell a (.string S)) w'
theorem box_cell {w w' : World} {B : Nat} (hg : (w.alloc (.cells #[.pointer (some ⟨B, 0, none⟩)] 68)).grownBy w' (some B)) (hlt : B < w.heap.size) : w'.cell? ⟨w.heap.size, 0, none⟩ = some (.pointer (some ⟨B, 0, none⟩)) :=
  hg.cell (show (w.alloc (.cells #[.pointer (some ⟨B, 0, none⟩)] 68)).cell? ⟨w.heap.size, 0, none⟩ = _ by rw [World.cell?_alloc_at _ _ _ _ rfl]; rfl) (by simp; omega)
theorem frozen_of_block {w w' : World} {a : Addr} (h : w'.heap[a.block]? = w.heap[a.block]?) (hz : w.frozen? a = false) : w'.frozen? a = false := by
  unfold World.frozen? at hz ⊢; rw [h]; exact hz

set_option maxHeartbeats 800000 in
theorem rtext_at {w : World} {B p : Nat} {b : ByteArray} {a : Addr} (h : Rd w B b p 0) (hp : p ≤ b.size) (hb : b.size ≤ 140737488351232) (lo hi : Nat) (hh : hi < 9223372036854775808) (ha : a.block ≠ B) {u : ByteArray} (hc : w.cell? a = some (.string u)) (hz : w.frozen? a = false) :
    Calls Try.prog 81 #[rvB B, .pointer (some a), .int .i64 (lo : Int), .int .i64 (hi : Int)] w (TPost w a B b (Rc.rT b lo hi p)) := by
  have HN := hide (rtextP (most := hi) (h.alloc (.cells #[.pointer (some ⟨B, 0, none⟩)] 68)) hp hb (by omega))
  have hlt := lt_of_block h
  have hal := World.block_lt_of_cell? _ _ hc
  have hane : w.heap.size ≠ a.block := by omega
  unfold rvB
  have HA : Hid (∀ W S, (w.alloc (.cells #[.pointer (some ⟨B, 0, none⟩)] 68)).grownBy W (some B) → W.cell? a = some (.string u) ∧ W.frozen? a = false ∧ w.grownBy W (some B) ∧ (W.setCell a (.string S)).cell? ⟨w.heap.size, 0, none⟩ = some (.pointer (some ⟨B, 0, none⟩)) ∧ (W.setCell a (.string S)).cell? a = some (.string S)) := hide fun W S hg => by
    have e : W.heap[a.block]? = w.heap[a.block]? := (hg.block _ (by simp; omega) (by simpa using ha)).trans (Below.heap_alloc _ _ _ hal)
    have hcW : W.cell? a = some (.string u) := (World.cell?_of_block e).trans hc
    refine ⟨hcW, frozen_of_block e hz, grown_trans (grown_below (below_alloc w _) _) hg, cell_other (box_cell hg hlt) hane, ?_⟩
    exact World.cell?_setCell_same _ _ _ hcW

  by_cases hk : textK b p hi = 0
  · have hr : Wr.rdT b hi p 0 = (textV b p, numQ b p + numV b p, 0) := by unfold Wr.rdT; rw [if_neg (by simp), if_pos hk]
    rw [hr] at HN
    by_cases hl : lo ≤ (textV b p).size
    · have HR : Hid (Rc.rT b lo hi p = some (textV b p, numQ b p + numV b p)) := hide (by unfold Rc.rT; rw [if_pos ⟨hk, hl⟩])
      have hD : true = true := rfl
      have hd : decide (lo ≤ (textV b p).size) = true := decide_eq_true hl
      clear hr hk h hl
      generalize textV b p = S at *
      generalize numQ b p + numV b p = q at *
      have HRD : Hid (∀ W V : World, V.setCell a (.string S) = W → Rd W B b (q : Int) 0 → Rd V B b (q : Int) 0) := hide fun W V e hW => (Below.heap_setCell V a (.string S) B (fun e => ha e.symm)).symm.trans (by rw [e]; exact hW)
      go_enter Try.func81, Try.ntmps81
      go_wp2_with fail
      refine HN.out.mono ?_
      rintro e W ⟨rfl, h1, hg1⟩
      obtain ⟨hcW, hzW, hgW, s0, s1⟩ := HA.out W S hg1
      have HG := hide hgW
      have H2 : Hid (Rd (W.setCell a (.string S)) B b _ _) := hide ((Below.heap_setCell _ _ _ _ (fun e => ha e.symm)).trans h1)
      have hszs : (W.setCell a (.string S)).heap.size = W.heap.size := by simp
      have HB : Hid (∀ w2 : World, Below (W.setCell a (.string S)).heap.size (W.setCell a (.string S)).drew w2 → Below W.heap.size (W.setCell a (.string S)) w2) := hide fun w2 hb2 => ((Below.refl _ _).drew.trans hb2).mono (by omega)
      clear HN hg1 h1 HA hgW
      go_wp2_with fail
      generalize hV : W.setCell a (.string S) = V at *
      refine wp_region_held_drew (S := fun w' => w'.cell? ⟨w.heap.size, 0, none⟩ = some (.pointer (some ⟨B, 0, none⟩)) ∧ w'.cell? a = some (.string S)) (by kernel_rfl) ⟨s0, s1⟩ (fun hHeld => ?_)
      refine wpAnyH_take (i := 0) (v := .agg #[.pointer (some ⟨B, 0, none⟩)]) rfl (by kernel_rfl) (by kernel_rfl) (by kernel_rfl) (fun _ _ _ h => h) (Or.inl ⟨by rfl, fun w1 hSw => by have hS1 := hSw.1; have hS2 := hSw.2; clear hHeld; go_simp⟩) hHeld ?_
      simp only [Act.put, List.setIfInBounds_toArray]
      refine wpAnyH_take (i := 1) (v := .pointer (some a)) rfl (by kernel_rfl) (by kernel_rfl) (by kernel_rfl) (fun _ _ _ h => h) (Or.inl ⟨by rfl, fun w1 hSw => by have hS1 := hSw.1; have hS2 := hSw.2; clear hHeld; go_simp⟩) hHeld ?_
      simp only [Act.put]
      refine wpAnyH_take (i := 2) (v := .pointer (some a)) rfl (by kernel_rfl) (by kernel_rfl) (by kernel_rfl) (fun _ _ _ h => h) (Or.inl ⟨by rfl, fun w1 hSw => by have hS1 := hSw.1; have hS2 := hSw.2; clear hHeld; go_simp⟩) hHeld ?_
      simp only [Act.put]
      refine wpAnyH_take (i := 3) (v := .string S) rfl (by kernel_rfl) (by kernel_rfl) (by kernel_rfl) (fun _ _ _ h => h) (Or.inl ⟨by rfl, fun w1 hSw => by have hS1 := hSw.1; have hS2 := hSw.2; clear hHeld; go_simp⟩) hHeld ?_
      simp only [Act.put]
      refine wpAnyH_take (i := 4) (v := .int .i64 (S.size : Int)) rfl (by kernel_rfl) (by kernel_rfl) (by kernel_rfl) (fun _ _ _ h => h) (Or.inl ⟨by rfl, fun w1 hSw => by have hS1 := hSw.1; have hS2 := hSw.2; clear hHeld; go_simp⟩) hHeld ?_
      simp only [Act.put]
      refine wpAnyH_take (i := 5) (v := .int .i64 (lo : Int)) rfl (by kernel_rfl) (by kernel_rfl) (by kernel_rfl) (fun _ _ _ h => h) (Or.inl ⟨by rfl, fun w1 hSw => by have hS1 := hSw.1; have hS2 := hSw.2; clear hHeld; go_simp⟩) hHeld ?_
      simp only [Act.put]
      refine wpAnyH_take (i := 6) (v := .bool true) rfl (by kernel_rfl) (by kernel_rfl) (by kernel_rfl) (fun _ _ _ h => h) (Or.inl ⟨by rfl, fun w1 hSw => by have hS1 := hSw.1; have hS2 := hSw.2; clear hHeld; go_simp⟩) hHeld ?_
      simp only [Act.put]
      refine wpAnyH_ready (rs := [7]) (by kernel_rfl) (by simp) ?_
      refine AllReadyH.cons rfl (fun K hK => ?_) AllReadyH.nil
      go_simp
      refine (need_ok (w := V.drew) H2.out).mono ?_
      rintro e w2 ⟨rfl, hb2⟩
      have HF := hide (HB.out _ hb2)
      refine hK.out _ _ ⟨(hb2.cell (p := ⟨w.heap.size, 0, none⟩) (World.block_lt_of_cell? _ _ s0)).trans s0, (hb2.cell (p := a) (World.block_lt_of_cell? _ _ s1)).trans s1⟩ (fun hHeld => ?_)
      refine wpAnyH_done (by kernel_rfl) ?_ _
      go_end0
      unfold TPost
      rw [HR.out]
      exact ⟨rfl, W, HG.out, HRD.out _ _ hV H2.out, by rw [hV]; exact HF.out⟩
    · have HR : Hid (Rc.rT b lo hi p = none) := hide (by unfold Rc.rT; rw [if_neg (fun h => hl h.2)])
      have hd : decide (lo ≤ (textV b p).size) = false := decide_eq_false hl
      have hD : false = false := rfl
      clear hr hk h hl
      generalize textV b p = S at *
      generalize numQ b p + numV b p = q at *
      go_enter Try.func81, Try.ntmps81
      go_wp2_with fail
      refine HN.out.mono ?_
      rintro e W ⟨rfl, h1, hg1⟩
      obtain ⟨hcW, hzW, hgW, s0, s1⟩ := HA.out W S hg1
      have HG := hide hgW
      have H2 : Hid (Rd (W.setCell a (.string S)) B b _ _) := hide ((Below.heap_setCell _ _ _ _ (fun e => ha e.symm)).trans h1)
      have hszs : (W.setCell a (.string S)).heap.size = W.heap.size := by simp
      have HB : Hid (∀ w2 : World, Below (W.setCell a (.string S)).heap.size (W.setCell a (.string S)).drew w2 → Below W.heap.size (W.setCell a (.string S)) w2) := hide fun w2 hb2 => ((Below.refl _ _).drew.trans hb2).mono (by omega)
      clear HN hg1 h1 HA hgW
      go_wp2_with fail
      generalize hV : W.setCell a (.string S) = V at *
      refine wp_region_held_drew (S := fun w' => w'.cell? ⟨w.heap.size, 0, none⟩ = some (.pointer (some ⟨B, 0, none⟩)) ∧ w'.cell? a = some (.string S)) (by kernel_rfl) ⟨s0, s1⟩ (fun hHeld => ?_)
      refine wpAnyH_take (i := 0) (v := .agg #[.pointer (some ⟨B, 0, none⟩)]) rfl (by kernel_rfl) (by kernel_rfl) (by kernel_rfl) (fun _ _ _ h => h) (Or.inl ⟨by rfl, fun w1 hSw => by have hS1 := hSw.1; have hS2 := hSw.2; clear hHeld; go_simp⟩) hHeld ?_
      simp only [Act.put, List.setIfInBounds_toArray]
      refine wpAnyH_take (i := 1) (v := .pointer (some a)) rfl (by kernel_rfl) (by kernel_rfl) (by kernel_rfl) (fun _ _ _ h => h) (Or.inl ⟨by rfl, fun w1 hSw => by have hS1 := hSw.1; have hS2 := hSw.2; clear hHeld; go_simp⟩) hHeld ?_
      simp only [Act.put]
      refine wpAnyH_take (i := 2) (v := .pointer (some a)) rfl (by kernel_rfl) (by kernel_rfl) (by kernel_rfl) (fun _ _ _ h => h) (Or.inl ⟨by rfl, fun w1 hSw => by have hS1 := hSw.1; have hS2 := hSw.2; clear hHeld; go_simp⟩) hHeld ?_
      simp only [Act.put]
      refine wpAnyH_take (i := 3) (v := .string S) rfl (by kernel_rfl) (by kernel_rfl) (by kernel_rfl) (fun _ _ _ h => h) (Or.inl ⟨by rfl, fun w1 hSw => by have hS1 := hSw.1; have hS2 := hSw.2; clear hHeld; go_simp⟩) hHeld ?_
      simp only [Act.put]
      refine wpAnyH_take (i := 4) (v := .int .i64 (S.size : Int)) rfl (by kernel_rfl) (by kernel_rfl) (by kernel_rfl) (fun _ _ _ h => h) (Or.inl ⟨by rfl, fun w1 hSw => by have hS1 := hSw.1; have hS2 := hSw.2; clear hHeld; go_simp⟩) hHeld ?_
      simp only [Act.put]
      refine wpAnyH_take (i := 5) (v := .int .i64 (lo : Int)) rfl (by kernel_rfl) (by kernel_rfl) (by kernel_rfl) (fun _ _ _ h => h) (Or.inl ⟨by rfl, fun w1 hSw => by have hS1 := hSw.1; have hS2 := hSw.2; clear hHeld; go_simp⟩) hHeld ?_
      simp only [Act.put]
      refine wpAnyH_take (i := 6) (v := .bool false) rfl (by kernel_rfl) (by kernel_rfl) (by kernel_rfl) (fun _ _ _ h => h) (Or.inl ⟨by rfl, fun w1 hSw => by have hS1 := hSw.1; have hS2 := hSw.2; clear hHeld; go_simp⟩) hHeld ?_
      simp only [Act.put]
      refine wpAnyH_ready (rs := [7]) (by kernel_rfl) (by simp) ?_
      refine AllReadyH.cons rfl (fun K hK => ?_) AllReadyH.nil
      go_simp
      refine (need_no (w := V.drew) H2.out _ (.inr rfl)).mono ?_
      rintro e w2 ⟨he, hb2⟩
      have HF := hide (HB.out _ hb2)
      unfold Gives at he
      subst he
      refine ⟨rfl, ?_⟩
      unfold TPost
      rw [HR.out]
      exact ⟨rfl, W, S, HG.out, by rw [hV]; exact HF.out⟩
  · have hr : Wr.rdT b hi p 0 = (Wr.e0, p, textK b p hi) := by unfold Wr.rdT; rw [if_neg (by simp), if_neg hk]
    rw [hr] at HN
    have HR : Hid (Rc.rT b lo hi p = none) := hide (by unfold Rc.rT; rw [if_neg (fun h => hk h.1)])
    have hk2 : ((textK b p hi : Nat) : Int) ≠ 0 := by omega
    clear hr hk h
    generalize textK b p hi = f at *
    generalize hS : Wr.e0 = S at *
    obtain ⟨D, hd⟩ : ∃ D, decide (lo ≤ S.size) = D := ⟨_, rfl⟩
    go_enter Try.func81, Try.ntmps81
    go_wp2_with fail
    refine HN.out.mono ?_
    rintro e W ⟨rfl, h1, hg1⟩
    obtain ⟨hcW, hzW, hgW, s0, s1⟩ := HA.out W S hg1
    have HG := hide hgW
    have H2 : Hid (Rd (W.setCell a (.string S)) B b _ _) := hide ((Below.heap_setCell _ _ _ _ (fun e => ha e.symm)).trans h1)
    have hszs : (W.setCell a (.string S)).heap.size = W.heap.size := by simp
    have HB : Hid (∀ w2 : World, Below (W.setCell a (.string S)).heap.size (W.setCell a (.string S)).drew w2 → Below W.heap.size (W.setCell a (.string S)) w2) := hide fun w2 hb2 => ((Below.refl _ _).drew.trans hb2).mono (by omega)
    clear HN hg1 h1 HA hgW
    go_wp2_with fail
    generalize hV : W.setCell a (.string S) = V at *
    refine wp_region_held_drew (S := fun w' => w'.cell? ⟨w.heap.size, 0, none⟩ = some (.pointer (some ⟨B, 0, none⟩)) ∧ w'.cell? a = some (.string S)) (by kernel_rfl) ⟨s0, s1⟩ (fun hHeld => ?_)
    refine wpAnyH_take (i := 0) (v := .agg #[.pointer (some ⟨B, 0, none⟩)]) rfl (by kernel_rfl) (by kernel_rfl) (by kernel_rfl) (fun _ _ _ h => h) (Or.inl ⟨by rfl, fun w1 hSw => by have hS1 := hSw.1; have hS2 := hSw.2; clear hHeld; go_simp⟩) hHeld ?_
    simp only [Act.put, List.setIfInBounds_toArray]
    refine wpAnyH_take (i := 1) (v := .pointer (some a)) rfl (by kernel_rfl) (by kernel_rfl) (by kernel_rfl) (fun _ _ _ h => h) (Or.inl ⟨by rfl, fun w1 hSw => by have hS1 := hSw.1; have hS2 := hSw.2; clear hHeld; go_simp⟩) hHeld ?_
    simp only [Act.put]
    refine wpAnyH_take (i := 2) (v := .pointer (some a)) rfl (by kernel_rfl) (by kernel_rfl) (by kernel_rfl) (fun _ _ _ h => h) (Or.inl ⟨by rfl, fun w1 hSw => by have hS1 := hSw.1; have hS2 := hSw.2; clear hHeld; go_simp⟩) hHeld ?_
    simp only [Act.put]
    refine wpAnyH_take (i := 3) (v := .string S) rfl (by kernel_rfl) (by kernel_rfl) (by kernel_rfl) (fun _ _ _ h => h) (Or.inl ⟨by rfl, fun w1 hSw => by have hS1 := hSw.1; have hS2 := hSw.2; clear hHeld; go_simp⟩) hHeld ?_
    simp only [Act.put]
    refine wpAnyH_take (i := 4) (v := .int .i64 (S.size : Int)) rfl (by kernel_rfl) (by kernel_rfl) (by kernel_rfl) (fun _ _ _ h => h) (Or.inl ⟨by rfl, fun w1 hSw => by have hS1 := hSw.1; have hS2 := hSw.2; clear hHeld; go_simp⟩) hHeld ?_
    simp only [Act.put]
    refine wpAnyH_take (i := 5) (v := .int .i64 (lo : Int)) rfl (by kernel_rfl) (by kernel_rfl) (by kernel_rfl) (fun _ _ _ h => h) (Or.inl ⟨by rfl, fun w1 hSw => by have hS1 := hSw.1; have hS2 := hSw.2; clear hHeld; go_simp⟩) hHeld ?_
    simp only [Act.put]
    refine wpAnyH_take (i := 6) (v := .bool D) rfl (by kernel_rfl) (by kernel_rfl) (by kernel_rfl) (fun _ _ _ h => h) (Or.inl ⟨by rfl, fun w1 hSw => by have hS1 := hSw.1; have hS2 := hSw.2; clear hHeld; go_simp⟩) hHeld ?_
    simp only [Act.put]
    refine wpAnyH_ready (rs := [7]) (by kernel_rfl) (by simp) ?_
    refine AllReadyH.cons rfl (fun K hK => ?_) AllReadyH.nil
    go_simp
    refine (need_no (w := V.drew) H2.out _ (.inl hk2)).mono ?_
    rintro e w2 ⟨he, hb2⟩
    have HF := hide (HB.out _ hb2)
    unfold Gives at he
    subst he
    refine ⟨rfl, ?_⟩
    unfold TPost
    rw [HR.out]
    exact ⟨rfl, W, S, HG.out, by rw [hV]; exact HF.out⟩
end Go.Proofs.Ytjabnddjahhgoaa
