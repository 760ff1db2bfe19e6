import Derived.Test.YtlgcimfbhjidgaaMgAN

section
namespace Go.Proofs.Ytlgcimfbhjidgaa
open Go.RowKit
open Rc (L V Ch)

/-- a text's reading into a cell -/
def TPost (w : World) (a : Addr) (B : Nat) (b : ByteArray) (x : Option (ByteArray × Nat)) (e : Ending) (w' : World) : Prop :=
  match x with
  | some y => e = .returned (.tuple #[]) ∧ ∃ W, w.grownBy W (some B) ∧ Rd W B b (y.2 : Int) 0 ∧ Below W.heap.size (W.setCell a (.string y.1)) w'
  | none => Gives e 83 ∧ ∃ W S, w.grownBy W (some B) ∧ Below W.heap.size (W.setCell a (.string S)) w'
theorem box_cell {w w' : World} {B : Nat} (hg : (w.alloc (.cells #[.pointer (some ⟨B, 0, none⟩)] 48)).grownBy w' (some B)) (hlt : B < w.heap.size) : w'.cell? ⟨w.heap.size, 0, none⟩ = some (.pointer (some ⟨B, 0, none⟩)) :=
  hg.cell (show (w.alloc (.cells #[.pointer (some ⟨B, 0, none⟩)] 48)).cell? ⟨w.heap.size, 0, none⟩ = _ by rw [World.cell?_alloc_at _ _ _ _ rfl]; rfl) (by simp; omega)
theorem frozen_of_block {w w' : World} {a : Addr} (h : w'.heap[a.block]? = w.heap[a.block]?) (hz : w.frozen? a = false) : w'.frozen? a = false := by
  unfold World.frozen? at hz ⊢; rw [h]; exact hz

set_option maxHeartbeats 800000 in
theorem rtext_at {w : World} {B p : Nat} {b : ByteArray} {a : Addr} (h : Rd w B b p 0) (hp : p ≤ b.size) (hb : b.size ≤ 140737488351232) (lo hi : Nat) (hh : hi < 9223372036854775808) (ha : a.block ≠ B) {u : ByteArray} (hc : w.cell? a = some (.string u)) (hz : w.frozen? a = false) :
    Calls Try.prog 66 #[rvB B, .pointer (some a), .int .i64 (lo : Int), .int .i64 (hi : Int)] w (TPost w a B b (Rc.rT b lo hi p)) := by
  have HN := hide (rtextP (most := hi) (h.alloc (.cells #[.pointer (some ⟨B, 0, none⟩)] 48)) hp hb (by omega))
  have hlt := lt_of_block h
  have hal := World.block_lt_of_cell? _ _ hc
  have hane : w.heap.size ≠ a.block := by omega
  unfold rvB
  have HA : Hid (∀ W S, (w.alloc (.cells #[.pointer (some ⟨B, 0, none⟩)] 48)).grownBy W (some B) → W.cell? a = some (.string u) ∧ W.frozen? a = false ∧ w.grownBy W (some B) ∧ (W.setCell a (.string S)).cell? ⟨w.heap.size, 0, none⟩ = some (.pointer (some ⟨B, 0, none⟩)) ∧ (W.setCell a (.string S)).cell? a = some (.string S)) := hide fun W S hg => by
    have e : W.heap[a.block]? = w.heap[a.block]? := (hg.block _ (by simp; omega) (by simpa using ha)).trans (Below.heap_alloc _ _ _ hal)
    have hcW : W.cell? a = some (.string u) := (World.cell?_of_block e).trans hc
    refine ⟨hcW, frozen_of_block e hz, grown_trans (grown_below (below_alloc w _) _) hg, cell_other (box_cell hg hlt) hane, ?_⟩
    exact World.cell?_setCell_same _ _ _ hcW

  by_cases hk : textK b p hi = 0
  · have hr : Wr.rdT b hi p 0 = (textV b p, numQ b p + numV b p, 0) := by unfold Wr.rdT; rw [if_neg (by simp), if_pos hk]
    rw [hr] at HN
    by_cases hl : lo ≤ (textV b p).size
    · have HR : Hid (Rc.rT b lo hi p = some (textV b p, numQ b p + numV b p)) := hide (by unfold Rc.rT; rw [if_pos ⟨hk, hl⟩])
      have hD : true = true := rfl
      have hd : decide (lo ≤ (textV b p).size) = true := decide_eq_true hl
      clear hr hk h hl
      generalize textV b p = S at *
      generalize numQ b p + numV b p = q at *
      have HRD : Hid (∀ W V : World, V.setCell a (.string S) = W → Rd W B b (q : Int) 0 → Rd V B b (q : Int) 0) := hide fun W V e hW => (Below.heap_setCell V a (.string S) B (fun e => ha e.symm)).symm.trans (by rw [e]; exact hW)
      go_enter Try.func66, Try.ntmps66
      go_wp2_with fail
      refine HN.out.mono ?_
      rintro e W ⟨rfl, h1, hg1⟩
      obtain ⟨hcW, hzW, hgW, s0, s1⟩ := HA.out W S hg1
      have HG := hide hgW
      have H2 : Hid (Rd (W.setCell a (.string S)) B b _ _) := hide ((Below.heap_setCell _ _ _ _ (fun e => ha e.symm)).trans h1)
      have hszs : (W.setCell a (.string S)).heap.size = W.heap.size := by simp
      have HB : Hid (∀ w2 : World, Below (W.setCell a (.string S)).heap.size (W.setCell a (.string S)).drew w2 → Below W.heap.size (W.setCell a (.string S)) w2) := hide fun w2 hb2 => ((Below.refl _ _).drew.trans hb2).mono (by omega)
      clear HN hg1 h1 HA hgW
      go_wp2_with fail
      generalize hV : W.setCell a (.string S) = V at *
      refine wp_region_held_drew (S := fun w' => w'.cell? ⟨w.heap.size, 0, none⟩ = some (.pointer (some ⟨B, 0, none⟩)) ∧ w'.cell? a = some (.string S)) (by kernel_rfl) ⟨s0, s1⟩ (fun hHeld => ?_)
      refine wpAnyH_take (i := 0) (v := .agg #[.pointer (some ⟨B, 0, none⟩)]) rfl (by kernel_rfl) (by kernel_rfl) (by kernel_rfl) (fun _ _ _ h => h) (Or.inl ⟨by rfl, fun w1 hSw => by have hS1 := hSw.1; have hS2 := hSw.2; clear hHeld; go_simp⟩) hHeld ?_
      simp only [Act.put, List.setIfInBounds_toArray]
      refine wpAnyH_take (i := 1) (v := .pointer (some a)) rfl (by kernel_rfl) (by kernel_rfl) (by kernel_rfl) (fun _ _ _ h => h) (Or.inl ⟨by rfl, fun w1 hSw => by have hS1 := hSw.1; have hS2 := hSw.2; clear hHeld; go_simp⟩) hHeld ?_
      simp only [Act.put]
      refine wpAnyH_take (i := 2) (v := .pointer (some a)) rfl (by kernel_rfl) (by kernel_rfl) (by kernel_rfl) (fun _ _ _ h => h) (Or.inl ⟨by rfl, fun w1 hSw => by have hS1 := hSw.1; have hS2 := hSw.2; clear hHeld; go_simp⟩) hHeld ?_
      simp only [Act.put]
      refine wpAnyH_take (i := 3) (v := .string S) rfl (by kernel_rfl) (by kernel_rfl) (by kernel_rfl) (fun _ _ _ h => h) (Or.inl ⟨by rfl, fun w1 hSw => by have hS1 := hSw.1; have hS2 := hSw.2; clear hHeld; go_simp⟩) hHeld ?_
      simp only [Act.put]
      refine wpAnyH_take (i := 4) (v := .int .i64 (S.size : Int)) rfl (by kernel_rfl) (by kernel_rfl) (by kernel_rfl) (fun _ _ _ h => h) (Or.inl ⟨by rfl, fun w1 hSw => by have hS1 := hSw.1; have hS2 := hSw.2; clear hHeld; go_simp⟩) hHeld ?_
      simp only [Act.put]
      refine wpAnyH_take (i := 5) (v := .int .i64 (lo : Int)) rfl (by kernel_rfl) (by kernel_rfl) (by kernel_rfl) (fun _ _ _ h => h) (Or.inl ⟨by rfl, fun w1 hSw => by have hS1 := hSw.1; have hS2 := hSw.2; clear hHeld; go_simp⟩) hHeld ?_
      simp only [Act.put]
      refine wpAnyH_take (i := 6) (v := .bool true) rfl (by kernel_rfl) (by kernel_rfl) (by kernel_rfl) (fun _ _ _ h => h) (Or.inl ⟨by rfl, fun w1 hSw => by have hS1 := hSw.1; have hS2 := hSw.2; clear hHeld; go_simp⟩) hHeld ?_
      simp only [Act.put]
      refine wpAnyH_ready (rs := [7]) (by kernel_rfl) (by simp) ?_
      refine AllReadyH.cons rfl (fun K hK => ?_) AllReadyH.nil
      go_simp
      refine (need_ok (w := V.drew) H2.out).mono ?_
      rintro e w2 ⟨rfl, hb2⟩
      have HF := hide (HB.out _ hb2)
      refine hK.out _ _ ⟨(hb2.cell (p := ⟨w.heap.size, 0, none⟩) (World.block_lt_of_cell? _ _ s0)).trans s0, (hb2.cell (p := a) (World.block_lt_of_cell? _ _ s1)).trans s1⟩ (fun hHeld => ?_)
      refine wpAnyH_done (by kernel_rfl) ?_ _
      go_end0
      unfold TPost
      rw [HR.out]
      exact ⟨rfl, W, HG.out, HRD.out _ _ hV H2.out, by rw [hV]; exact HF.out⟩
    · have HR : Hid (Rc.rT b lo hi p = none) := hide (by unfold Rc.rT; rw [if_neg (fun h => hl h.2)])
      have hd : decide (lo ≤ (textV b p).size) = false := decide_eq_false hl
      have hD : false = false := rfl
      clear hr hk h hl
      generalize textV b p = S at *
      generalize numQ b p + numV b p = q at *
      go_enter Try.func66, Try.ntmps66
      go_wp2_with fail
      refine HN.out.mono ?_
      rintro e W ⟨rfl, h1, hg1⟩
      obtain ⟨hcW, hzW, hgW, s0, s1⟩ := HA.out W S hg1
      have HG := hide hgW
      have H2 : Hid (Rd (W.setCell a (.string S)) B b _ _) := hide ((Below.heap_setCell _ _ _ _ (fun e => ha e.symm)).trans h1)
      have hszs : (W.setCell a (.string S)).heap.size = W.heap.size := by simp
      have HB : Hid (∀ w2 : World, Below (W.setCell a (.string S)).heap.size (W.setCell a (.string S)).drew w2 → Below W.heap.size (W.setCell a (.string S)) w2) := hide fun w2 hb2 => ((Below.refl _ _).drew.trans hb2).mono (by omega)
      clear HN hg1 h1 HA hgW
      go_wp2_with fail
      generalize hV : W.setCell a (.string S) = V at *
      refine wp_region_held_drew (S := fun w' => w'.cell? ⟨w.heap.size, 0, none⟩ = some (.pointer (some ⟨B, 0, none⟩)) ∧ w'.cell? a = some (.string S)) (by kernel_rfl) ⟨s0, s1⟩ (fun hHeld => ?_)
      refine wpAnyH_take (i := 0) (v := .agg #[.pointer (some ⟨B, 0, none⟩)]) rfl (by kernel_rfl) (by kernel_rfl) (by kernel_rfl) (fun _ _ _ h => h) (Or.inl ⟨by rfl, fun w1 hSw => by have hS1 := hSw.1; have hS2 := hSw.2; clear hHeld; go_simp⟩) hHeld ?_
      simp only [Act.put, List.setIfInBounds_toArray]
      refine wpAnyH_take (i := 1) (v := .pointer (some a)) rfl (by kernel_rfl) (by kernel_rfl) (by kernel_rfl) (fun _ _ _ h => h) (Or.inl ⟨by rfl, fun w1 hSw => by have hS1 := hSw.1; have hS2 := hSw.2; clear hHeld; go_simp⟩) hHeld ?_
      simp only [Act.put]
      refine wpAnyH_take (i := 2) (v := .pointer (some a)) rfl (by kernel_rfl) (by kernel_rfl) (by kernel_rfl) (fun _ _ _ h => h) (Or.inl ⟨by rfl, fun w1 hSw => by have hS1 := hSw.1; have hS2 := hSw.2; clear hHeld; go_simp⟩) hHeld ?_
      simp only [Act.put]
      refine wpAnyH_take (i := 3) (v := .string S) rfl (by kernel_rfl) (by kernel_rfl) (by kernel_rfl) (fun _ _ _ h => h) (Or.inl ⟨by rfl, fun w1 hSw => by have hS1 := hSw.1; have hS2 := hSw.2; clear hHeld; go_simp⟩) hHeld ?_
      simp only [Act.put]
      refine wpAnyH_take (i := 4) (v := .int .i64 (S.size : Int)) rfl (by kernel_rfl) (by kernel_rfl) (by kernel_rfl) (fun _ _ _ h => h) (Or.inl ⟨by rfl, fun w1 hSw => by have hS1 := hSw.1; have hS2 := hSw.2; clear hHeld; go_simp⟩) hHeld ?_
      simp only [Act.put]
      refine wpAnyH_take (i := 5) (v := .int .i64 (lo : Int)) rfl (by kernel_rfl) (by kernel_rfl) (by kernel_rfl) (fun _ _ _ h => h) (Or.inl ⟨by rfl, fun w1 hSw => by have hS1 := hSw.1; have hS2 := hSw.2; clear hHeld; go_simp⟩) hHeld ?_
      simp only [Act.put]
      refine wpAnyH_take (i := 6) (v := .bool false) rfl (by kernel_rfl) (by kernel_rfl) (by kernel_rfl) (fun _ _ _ h => h) (Or.inl ⟨by rfl, fun w1 hSw => by have hS1 := hSw.1; have hS2 := hSw.2; clear hHeld; go_simp⟩) hHeld ?_
      simp only [Act.put]
      refine wpAnyH_ready (rs := [7]) (by kernel_rfl) (by simp) ?_
      refine AllReadyH.cons rfl (fun K hK => ?_) AllReadyH.nil
      go_simp
      refine (need_no (w := V.drew) H2.out _ (.inr rfl)).mono ?_
      rintro e w2 ⟨he, hb2⟩
      have HF := hide (HB.out _ hb2)
      unfold Gives at he
      subst he
      refine ⟨rfl, ?_⟩
      unfold TPost
      rw [HR.out]
      exact ⟨rfl, W, S, HG.out, by rw [hV]; exact HF.out⟩
  · have hr : Wr.rdT b hi p 0 = (Wr.e0, p, textK b p hi) := by unfold Wr.rdT; rw [if_neg (by simp), if_neg hk]
    rw [hr] at HN
    have HR : Hid (Rc.rT b lo hi p = none) := hide (by unfold Rc.rT; rw [if_neg (fun h => hk h.1)])
    have hk2 : ((textK b p hi : Nat) : Int) ≠ 0 := by omega
    clear hr hk h
    generalize textK b p hi = f at *
    generalize hS : Wr.e0 = S at *
    obtain ⟨D, hd⟩ : ∃ D, decide (lo ≤ S.size) = D := ⟨_, rfl⟩
    go_enter Try.func66, Try.ntmps66
    go_wp2_with fail
    refine HN.out.mono ?_
    rintro e W ⟨rfl, h1, hg1⟩
    obtain ⟨hcW, hzW, hgW, s0, s1⟩ := HA.out W S hg1
    have HG := hide hgW
    have H2 : Hid (Rd (W.setCell a (.string S)) B b _ _) := hide ((Below.heap_setCell _ _ _ _ (fun e => ha e.symm)).trans h1)
    have hszs : (W.setCell a (.string S)).heap.size = W.heap.size := by simp
    have HB : Hid (∀ w2 : World, Below (W.setCell a (.string S)).heap.size (W.setCell a (.string S)).drew w2 → Below W.heap.size (W.setCell a (.string S)) w2) := hide fun w2 hb2 => ((Below.refl _ _).drew.trans hb2).mono (by omega)
    clear HN hg1 h1 HA hgW
    go_wp2_with fail
    generalize hV : W.setCell a (.string S) = V at *
    refine wp_region_held_drew (S := fun w' => w'.cell? ⟨w.heap.size, 0, none⟩ = some (.pointer (some ⟨B, 0, none⟩)) ∧ w'.cell? a = some (.string S)) (by kernel_rfl) ⟨s0, s1⟩ (fun hHeld => ?_)
    refine wpAnyH_take (i := 0) (v := .agg #[.pointer (some ⟨B, 0, none⟩)]) rfl (by kernel_rfl) (by kernel_rfl) (by kernel_rfl) (fun _ _ _ h => h) (Or.inl ⟨by rfl, fun w1 hSw => by have hS1 := hSw.1; have hS2 := hSw.2; clear hHeld; go_simp⟩) hHeld ?_
    simp only [Act.put, List.setIfInBounds_toArray]
    refine wpAnyH_take (i := 1) (v := .pointer (some a)) rfl (by kernel_rfl) (by kernel_rfl) (by kernel_rfl) (fun _ _ _ h => h) (Or.inl ⟨by rfl, fun w1 hSw => by have hS1 := hSw.1; have hS2 := hSw.2; clear hHeld; go_simp⟩) hHeld ?_
    simp only [Act.put]
    refine wpAnyH_take (i := 2) (v := .pointer (some a)) rfl (by kernel_rfl) (by kernel_rfl) (by kernel_rfl) (fun _ _ _ h => h) (Or.inl ⟨by rfl, fun w1 hSw => by have hS1 := hSw.1; have hS2 := hSw.2; clear hHeld; go_simp⟩) hHeld ?_
    simp only [Act.put]
    refine wpAnyH_take (i := 3) (v := .string S) rfl (by kernel_rfl) (by kernel_rfl) (by kernel_rfl) (fun _ _ _ h => h) (Or.inl ⟨by rfl, fun w1 hSw => by have hS1 := hSw.1; have hS2 := hSw.2; clear hHeld; go_simp⟩) hHeld ?_
    simp only [Act.put]
    refine wpAnyH_take (i := 4) (v := .int .i64 (S.size : Int)) rfl (by kernel_rfl) (by kernel_rfl) (by kernel_rfl) (fun _ _ _ h => h) (Or.inl ⟨by rfl, fun w1 hSw => by have hS1 := hSw.1; have hS2 := hSw.2; clear hHeld; go_simp⟩) hHeld ?_
    simp only [Act.put]
    refine wpAnyH_take (i := 5) (v := .int .i64 (lo : Int)) rfl (by kernel_rfl) (by kernel_rfl) (by kernel_rfl) (fun _ _ _ h => h) (Or.inl ⟨by rfl, fun w1 hSw => by have hS1 := hSw.1; have hS2 := hSw.2; clear hHeld; go_simp⟩) hHeld ?_
    simp only [Act.put]
    refine wpAnyH_take (i := 6) (v := .bool D) rfl (by kernel_rfl) (by kernel_rfl) (by kernel_rfl) (fun _ _ _ h => h) (Or.inl ⟨by rfl, fun w1 hSw => by have hS1 := hSw.1; have hS2 := hSw.2; clear hHeld; go_simp⟩) hHeld ?_
    simp only [Act.put]
    refine wpAnyH_ready (rs := [7]) (by kernel_rfl) (by simp) ?_
    refine AllReadyH.cons rfl (fun K hK => ?_) AllReadyH.nil
    go_simp
    refine (need_no (w := V.drew) H2.out _ (.inl hk2)).mono ?_
    rintro e w2 ⟨he, hb2⟩
    have HF := hide (HB.out _ hb2)
    unfold Gives at he
    subst he
    refine ⟨rfl, ?_⟩
    unfold TPost
    rw [HR.out]
    exact ⟨rfl, W, S, HG.out, by rw [hV]; exact HF.out⟩
end Go.Proofs.Ytlgcimfbhjidgaa
end

section
namespace Go.Proofs.Ytlgcimfbhjidgaa
open Go.RowKit
open Rc (L V Ch)
variable {w0 w1 : World} {A B : Nat} {b : ByteArray} {pre post : List Value}

theorem rtextL_any {p : Nat} {c : Ch} {w : World} (h : RdI w0 w1 A B b pre post (p, c) w) (hb : b.size ≤ 140737488351232) :
    Calls Try.prog 66 #[rvB B, .pointer (some ⟨A, pre.length + 8, none⟩), .int .i64 1, .int .i64 1024] w (Vis (RdI w0 w1 A B b pre post) (RdQ w0) (stR b .P (p, c))) := by
  obtain ⟨u, hu, t, ht⟩ := h.cell 8 (by decide)
  obtain rfl : u = .string c.pr := by simp [chC] at ht; exact ht.symm
  refine (rtext_at h.rd h.hp hb 1 1024 (by decide) h.ne hu (h.z _)).mono ?_
  intro e w' hT
  unfold TPost at hT
  cases hr : Rc.rT b 1 1024 p with
  | none =>
    rw [hr] at hT
    obtain ⟨he, W, S, hg, hb2⟩ := hT
    refine Vis.none (by simp [stR, Rc.rF, hr]) he ?_
    exact ((h.giveG hg).setCell h.hA _).trans (hb2.mono (Nat.le_trans h.bel.size hg.size))
  | some y =>
    obtain ⟨S, q⟩ := y
    rw [hr] at hT
    obtain ⟨rfl, W, hg, hR, hb2⟩ := hT
    have h2 := h.grown hg hR (Rc.rT_form h.hp hr).1
    have h3 := h2.put 8 (by decide) (.string S) { c with pr := S } (fun t => rfl) rfl
    exact Vis.some (by simp [stR, Rc.rF, hr, Rc.set]) (h3.below (by have := hb2; rw [show (W.setCell ⟨A, pre.length + 8, none⟩ (.string S)).heap.size = W.heap.size by simp]; exact this))

theorem RdI.cellR {p : Nat} {c : Ch} {w : World} (h : RdI w0 w1 A B b pre post (p, c) w) : w.cell? ⟨A, pre.length + 6, none⟩ = some (.int .i64 c.rc) ∧ w.cell? ⟨A, pre.length + 6 + 1, none⟩ = some (.int .u64 (c.rb : Int)) := by
  obtain ⟨u, hu, t, ht⟩ := h.cell 6 (by decide)
  obtain ⟨u', hu', t', ht'⟩ := h.cell 7 (by decide)
  simp [chC] at ht ht'
  exact ⟨by rw [hu, ← ht], by rw [show pre.length + 6 + 1 = pre.length + 7 from rfl, hu', ← ht']⟩
theorem RdI.box {s : Nat × Ch} {w : World} (h : RdI w0 w1 A B b pre post s w) {X : Nat} (hX : w.heap[X]? = some (.cells #[.pointer (some ⟨B, 0, none⟩)] 48 (0, 0))) : X ≠ A ∧ X ≠ B := by
  constructor
  · rintro rfl
    obtain ⟨t, ht, _⟩ := h.ch
    rw [hX] at ht
    simp only [Option.some.injEq, Obj.cells.injEq] at ht
    exact absurd ht.2.1 (by decide)
  · rintro rfl
    have := h.rd; unfold Rd at this; rw [hX] at this
    simp only [Option.some.injEq, Obj.cells.injEq] at this
    exact absurd this.2.1 (by decide)
/-- the reader's own box -/
def Bo (w : World) (X B : Nat) : Prop := w.heap[X]? = some (.cells #[.pointer (some ⟨B, 0, none⟩)] 48 (0, 0))
theorem Bo.c {w : World} {X : Nat} (h : Bo w X B) : w.cell? ⟨X, 0, none⟩ = some (.pointer (some ⟨B, 0, none⟩)) := by unfold Bo at h; simp [World.cell?, h]
theorem Bo.grown {w w' : World} {X : Nat} (h : Bo w X B) (hn : X ≠ B) (hg : w.grownBy w' (some B)) : Bo w' X B := (hg.block _ (lt_of_block h) (by simpa using hn)).trans h
theorem Bo.set {w : World} {X : Nat} (h : Bo w X B) {a : Addr} (hn : X ≠ a.block) (u : Value) : Bo (w.setCell a u) X B := (Below.heap_setCell _ _ _ _ hn).trans h

theorem rres_cells {p : Nat} {c : Ch} {w w' : World} (h : RdI w0 w1 A B b pre post (p, c) w) (hg : w.grownBy w' (some B)) : w'.cell? ⟨A, pre.length + 6, none⟩ = some (.int .i64 c.rc) ∧ w'.cell? ⟨A, pre.length + 6 + 1, none⟩ = some (.int .u64 (c.rb : Int)) ∧ w'.frozen? ⟨A, pre.length + 6 + 1, none⟩ = false ∧ A < w'.heap.size := by
  obtain ⟨c6, c7⟩ := h.cellR
  have hn : some A ≠ some B := by simpa using h.ne
  exact ⟨hg.cell c6 hn, hg.cell c7 hn, frozen_of_block (hg.block _ h.ltA hn) (h.z _), Nat.lt_of_lt_of_le h.ltA hg.size⟩
theorem rres_below {p : Nat} {c : Ch} {w w' : World} {M : Nat} (h : RdI w0 w1 A B b pre post (p, c) w) (hg : w.grownBy w' (some B)) : Below w0.heap.size w0 (w'.setCell ⟨A, pre.length + 6 + 1, none⟩ (.int .u64 (M : Int))) := (h.giveG hg).setCell h.hA _
set_option maxHeartbeats 1000000 in
theorem rresult_any {p : Nat} {c : Ch} {w : World} (h : RdI w0 w1 A B b pre post (p, c) w) (hb : b.size ≤ 140737488351232) :
    Calls Try.prog 65 #[rvB B, .pointer (some ⟨A, pre.length + 6, none⟩)] w (Vis (RdI w0 w1 A B b pre post) (RdQ w0) (stR b .R (p, c))) := by
  have h1 := h.below (below_alloc w (.cells #[.pointer (some ⟨B, 0, none⟩)] 48))
  have hX1 : Bo (w.alloc (.cells #[.pointer (some ⟨B, 0, none⟩)] 48)) w.heap.size B := heap_alloc_new w _
  obtain ⟨nA, nB⟩ := h1.box hX1
  have HN := hide (rnumber_any h1.rd h.hp hb 0 7 (by decide))
  have HH := hide h1
  have HX := hide hX1
  unfold rvB at *
  cases hr : Rc.rN b 0 7 p with
  | none =>
    have HS : Hid (stR b .R (p, c) = none) := hide (by simp [stR, Rc.rF, hr])
    rw [hr] at HN
    clear h h1 hr hX1
    go_enter Try.func65, Try.ntmps65
    go_wp2_with fail
    refine HN.out.mono ?_
    rintro e w2 ⟨he, hg⟩
    have HQ := hide (HH.out.giveG hg)
    unfold Gives at he
    subst he
    clear HN HH hg HX
    go_wp2
    exact ⟨rfl, Vis.none HS.out rfl HQ.out⟩
  | some y =>
    obtain ⟨N, q⟩ := y
    obtain ⟨hq, -, hN7, -⟩ := Rc.rN_form h.hp hr
    have HST : Hid (stR b .R (p, c) = (Rc.rB b N q).map fun y => (y.2, Rc.set .R ⟨(N : Int), y.1, Rc.e0, []⟩ c)) := hide (by simp only [stR, Rc.rF, hr, Option.bind_some]; cases Rc.rB b N q <;> rfl)
    rw [hr] at HN
    clear h h1 hr hX1
    go_enter Try.func65, Try.ntmps65
    go_wp2_with fail
    refine HN.out.mono ?_
    rintro e w2 ⟨⟨rfl, hr2⟩, hg⟩
    have h2 := HH.out.grown hg hr2 hq
    obtain ⟨c6, c7⟩ := h2.cellR
    have z6 := h2.z (pre.length + 6)
    have h3 := h2.put 6 (by decide) (.int .i64 (N : Int)) { c with rc := (N : Int) } (fun t => rfl) rfl
    have HX3 := hide ((HX.out.grown nB hg).set (a := ⟨A, pre.length + 6, none⟩) nA (.int .i64 (N : Int)))
    have HH3 := hide h3
    have HB := hide (rbitsP (f := 0) h3.rd h3.hp hb)
    have cX := HX3.out.c
    clear HN HH hg hr2 HX h2 h3
    generalize hW3 : w2.setCell ⟨A, pre.length + 6, none⟩ (.int .i64 (N : Int)) = w3 at *
    go_wp2_with fail
    by_cases hk : bitsK b q = 0
    · have hr : Wr.rdB b q 0 = (bitsV b q, q + 8, 0) := by unfold Wr.rdB; rw [if_neg (by simp), if_pos hk]
      have hq8 : q + 8 ≤ b.size := (bits_form hk).1
      rw [hr] at HB
      by_cases hm : N = 0 ∨ bitsV b q = 0
      · have HS : Hid (stR b .R (p, c) = some (q + 8, Rc.set .R ⟨(N : Int), bitsV b q, Rc.e0, []⟩ c)) := hide (by rw [HST.out, Rc.rB, if_pos ⟨hk, hm⟩]; rfl)
        have HD : Hid (decide ((N : Int) = 0 ∨ bitsV b q = 0) = true) := hide (decide_eq_true (by omega))
        clear hr hk hm HST
        generalize bitsV b q = M at *
        refine HB.out.mono ?_
        rintro e w4 ⟨rfl, hr4, hg4⟩
        have h4 : RdI w0 w1 A B b pre post (q + 8, { c with rc := (N : Int) }) w4 := HH3.out.grown hg4 hr4 hq8
        obtain ⟨c6, c7⟩ := h4.cellR
        have z7 := h4.z (pre.length + 6 + 1)
        have h5 := hide (h4.put 7 (by decide) (.int .u64 (M : Int)) { c with rc := (N : Int), rb := M } (fun t => rfl) rfl)
        obtain ⟨s1, s2⟩ := h5.out.cellR
        have H5r := hide h5.out.rd
        have HX4 := hide ((HX3.out.grown nB hg4).set (a := ⟨A, pre.length + 6 + 1, none⟩) nA (.int .u64 (M : Int)))
        have s0 := HX4.out.c
        clear HB HH3 hg4 hr4 HX3 cX h4
        go_wp2_with fail
        generalize hW5 : w4.setCell ⟨A, pre.length + 6 + 1, none⟩ (.int .u64 (M : Int)) = w5 at *
        refine wp_region_held_drew (S := fun w' => w'.cell? ⟨w.heap.size, 0, none⟩ = some (.pointer (some ⟨B, 0, none⟩)) ∧ w'.cell? ⟨A, pre.length + 6, none⟩ = some (.int .i64 (N : Int)) ∧ w'.cell? ⟨A, pre.length + 6 + 1, none⟩ = some (.int .u64 (M : Int))) (by kernel_rfl) ⟨s0, s1, s2⟩ (fun hHeld => ?_)
        refine wpAnyH_take (i := 0) (v := .agg #[.pointer (some ⟨B, 0, none⟩)]) rfl (by kernel_rfl) (by kernel_rfl) (by kernel_rfl) (fun _ _ _ h => h) (Or.inl ⟨by rfl, fun w1 hSw => by have hS1 := hSw.1; have hS2 := hSw.2.1; have hS3 := hSw.2.2; clear hHeld; go_simp⟩) hHeld ?_
        simp only [Act.put, List.setIfInBounds_toArray]
        refine wpAnyH_take (i := 1) (v := .pointer (some ⟨A, pre.length + 6, none⟩)) rfl (by kernel_rfl) (by kernel_rfl) (by kernel_rfl) (fun _ _ _ h => h) (Or.inl ⟨by rfl, fun w1 hSw => by have hS1 := hSw.1; have hS2 := hSw.2.1; have hS3 := hSw.2.2; clear hHeld; go_simp⟩) hHeld ?_
        simp only [Act.put]
        refine wpAnyH_take (i := 2) (v := .pointer (some ⟨A, pre.length + 6, none⟩)) rfl (by kernel_rfl) (by kernel_rfl) (by kernel_rfl) (fun _ _ _ h => h) (Or.inl ⟨by rfl, fun w1 hSw => by have hS1 := hSw.1; have hS2 := hSw.2.1; have hS3 := hSw.2.2; clear hHeld; go_simp⟩) hHeld ?_
        simp only [Act.put]
        refine wpAnyH_take (i := 3) (v := .agg #[.int .i64 (N : Int), .int .u64 (M : Int)]) rfl (by kernel_rfl) (by kernel_rfl) (by kernel_rfl) (fun _ _ _ h => h) (Or.inl ⟨by rfl, fun w1 hSw => by have hS1 := hSw.1; have hS2 := hSw.2.1; have hS3 := hSw.2.2; clear hHeld; go_simp⟩) hHeld ?_
        simp only [Act.put]
        refine wpAnyH_ready (rs := [4]) (by kernel_rfl) (by simp) ?_
        refine AllReadyH.cons rfl (fun K hK => ?_) AllReadyH.nil
        go_simp
        refine (mayBitsR_any (N : Int) M _).mono ?_
        rintro e w6 ⟨rfl, rfl⟩
        rw [HD.out]
        have hb6 : Below w5.heap.size w5 (w5.drew.alloc (.cells #[.int .i64 (N : Int), .int .u64 (M : Int)] 29)) := (Below.refl _ _).drew.alloc (Nat.le_refl _) _
        have h6 := hide (rd_below H5r.out hb6)
        refine hK.out _ _ ⟨(hb6.cell (p := ⟨w.heap.size, 0, none⟩) (World.block_lt_of_cell? _ _ s0)).trans s0, (hb6.cell (p := ⟨A, pre.length + 6, none⟩) (World.block_lt_of_cell? _ _ s1)).trans s1, (hb6.cell (p := ⟨A, pre.length + 6 + 1, none⟩) (World.block_lt_of_cell? _ _ s2)).trans s2⟩ (fun hHeld => ?_)
        refine wpAnyH_ready (rs := [5]) (by kernel_rfl) (by simp) ?_
        refine AllReadyH.cons rfl (fun K2 hK2 => ?_) AllReadyH.nil
        go_simp
        refine (need_ok h6.out).mono ?_
        rintro e w7 ⟨rfl, hb7⟩
        have HF := hide (h5.out.below (hb6.trans (hb7.mono hb6.size)))
        have hb57 := hb6.trans (hb7.mono hb6.size)
        refine hK2.out _ _ ⟨(hb57.cell (p := ⟨w.heap.size, 0, none⟩) (World.block_lt_of_cell? _ _ s0)).trans s0, (hb57.cell (p := ⟨A, pre.length + 6, none⟩) (World.block_lt_of_cell? _ _ s1)).trans s1, (hb57.cell (p := ⟨A, pre.length + 6 + 1, none⟩) (World.block_lt_of_cell? _ _ s2)).trans s2⟩ (fun hHeld => ?_)
        refine wpAnyH_done (by kernel_rfl) ?_ _
        go_end0
        exact Vis.some HS.out HF.out
      · have HS : Hid (stR b .R (p, c) = none) := hide (by rw [HST.out, Rc.rB, if_neg (fun h => hm h.2)]; rfl)
        have HD : Hid (decide ((N : Int) = 0 ∨ bitsV b q = 0) = false) := hide (decide_eq_false (by omega))
        clear hr hk hm HST
        generalize bitsV b q = M at *
        refine HB.out.mono ?_
        rintro e w4 ⟨rfl, hr4, hg4⟩
        have h4 : RdI w0 w1 A B b pre post (q + 8, { c with rc := (N : Int) }) w4 := HH3.out.grown hg4 hr4 hq8
        obtain ⟨c6, c7⟩ := h4.cellR
        have z7 := h4.z (pre.length + 6 + 1)
        have h5 := hide (h4.put 7 (by decide) (.int .u64 (M : Int)) { c with rc := (N : Int), rb := M } (fun t => rfl) rfl)
        obtain ⟨s1, s2⟩ := h5.out.cellR
        have H5r := hide h5.out.rd
        have HX4 := hide ((HX3.out.grown nB hg4).set (a := ⟨A, pre.length + 6 + 1, none⟩) nA (.int .u64 (M : Int)))
        have s0 := HX4.out.c
        clear HB HH3 hg4 hr4 HX3 cX h4
        go_wp2_with fail
        generalize hW5 : w4.setCell ⟨A, pre.length + 6 + 1, none⟩ (.int .u64 (M : Int)) = w5 at *
        refine wp_region_held_drew (S := fun w' => w'.cell? ⟨w.heap.size, 0, none⟩ = some (.pointer (some ⟨B, 0, none⟩)) ∧ w'.cell? ⟨A, pre.length + 6, none⟩ = some (.int .i64 (N : Int)) ∧ w'.cell? ⟨A, pre.length + 6 + 1, none⟩ = some (.int .u64 (M : Int))) (by kernel_rfl) ⟨s0, s1, s2⟩ (fun hHeld => ?_)
        refine wpAnyH_take (i := 0) (v := .agg #[.pointer (some ⟨B, 0, none⟩)]) rfl (by kernel_rfl) (by kernel_rfl) (by kernel_rfl) (fun _ _ _ h => h) (Or.inl ⟨by rfl, fun w1 hSw => by have hS1 := hSw.1; have hS2 := hSw.2.1; have hS3 := hSw.2.2; clear hHeld; go_simp⟩) hHeld ?_
        simp only [Act.put, List.setIfInBounds_toArray]
        refine wpAnyH_take (i := 1) (v := .pointer (some ⟨A, pre.length + 6, none⟩)) rfl (by kernel_rfl) (by kernel_rfl) (by kernel_rfl) (fun _ _ _ h => h) (Or.inl ⟨by rfl, fun w1 hSw => by have hS1 := hSw.1; have hS2 := hSw.2.1; have hS3 := hSw.2.2; clear hHeld; go_simp⟩) hHeld ?_
        simp only [Act.put]
        refine wpAnyH_take (i := 2) (v := .pointer (some ⟨A, pre.length + 6, none⟩)) rfl (by kernel_rfl) (by kernel_rfl) (by kernel_rfl) (fun _ _ _ h => h) (Or.inl ⟨by rfl, fun w1 hSw => by have hS1 := hSw.1; have hS2 := hSw.2.1; have hS3 := hSw.2.2; clear hHeld; go_simp⟩) hHeld ?_
        simp only [Act.put]
        refine wpAnyH_take (i := 3) (v := .agg #[.int .i64 (N : Int), .int .u64 (M : Int)]) rfl (by kernel_rfl) (by kernel_rfl) (by kernel_rfl) (fun _ _ _ h => h) (Or.inl ⟨by rfl, fun w1 hSw => by have hS1 := hSw.1; have hS2 := hSw.2.1; have hS3 := hSw.2.2; clear hHeld; go_simp⟩) hHeld ?_
        simp only [Act.put]
        refine wpAnyH_ready (rs := [4]) (by kernel_rfl) (by simp) ?_
        refine AllReadyH.cons rfl (fun K hK => ?_) AllReadyH.nil
        go_simp
        refine (mayBitsR_any (N : Int) M _).mono ?_
        rintro e w6 ⟨rfl, rfl⟩
        rw [HD.out]
        have hb6 : Below w5.heap.size w5 (w5.drew.alloc (.cells #[.int .i64 (N : Int), .int .u64 (M : Int)] 29)) := (Below.refl _ _).drew.alloc (Nat.le_refl _) _
        have h6 := hide (rd_below H5r.out hb6)
        refine hK.out _ _ ⟨(hb6.cell (p := ⟨w.heap.size, 0, none⟩) (World.block_lt_of_cell? _ _ s0)).trans s0, (hb6.cell (p := ⟨A, pre.length + 6, none⟩) (World.block_lt_of_cell? _ _ s1)).trans s1, (hb6.cell (p := ⟨A, pre.length + 6 + 1, none⟩) (World.block_lt_of_cell? _ _ s2)).trans s2⟩ (fun hHeld => ?_)
        refine wpAnyH_ready (rs := [5]) (by kernel_rfl) (by simp) ?_
        refine AllReadyH.cons rfl (fun K2 hK2 => ?_) AllReadyH.nil
        go_simp
        refine (need_no h6.out _ (.inr rfl)).mono ?_
        rintro e w7 ⟨he, hb7⟩
        unfold Gives at he
        subst he
        have HF : Hid (RdQ w0 w7) := hide (h5.out.bel.trans ((hb6.trans (hb7.mono hb6.size)).mono h5.out.bel.size))
        exact ⟨rfl, Vis.none HS.out rfl HF.out⟩
    · obtain ⟨M, hM⟩ : ∃ M : Nat, M = 0 := ⟨0, rfl⟩
      have hr : Wr.rdB b q 0 = (M, q, bitsK b q) := by rw [hM]; unfold Wr.rdB; rw [if_neg (by simp), if_neg hk]
      have HS : Hid (stR b .R (p, c) = none) := hide (by rw [HST.out, Rc.rB, if_neg (fun h => hk h.1)]; rfl)
      rw [hr] at HB
      have hk2 : ((bitsK b q : Nat) : Int) ≠ 0 := by omega
      clear hr hk HST
      generalize bitsK b q = f at *
      clear hM
      obtain ⟨D, hD⟩ : ∃ D, decide ((N : Int) = 0 ∨ M = 0) = D := ⟨_, rfl⟩
      have HD := hide hD
      clear hD
      refine HB.out.mono ?_
      rintro e w4 ⟨rfl, hr4, hg4⟩
      obtain ⟨c6, c7, z7, hgx⟩ := rres_cells HH3.out hg4
      have hnA : A ≠ B := HH3.out.ne
      have h5 := hide (rres_below HH3.out hg4 (M := M))
      have s1 : (w4.setCell ⟨A, pre.length + 6 + 1, none⟩ (.int .u64 (M : Int))).cell? ⟨A, pre.length + 6, none⟩ = some (.int .i64 (N : Int)) := by rw [World.cell?_setCell_other _ _ _ _ (by simp)]; exact c6
      have s2 : (w4.setCell ⟨A, pre.length + 6 + 1, none⟩ (.int .u64 (M : Int))).cell? ⟨A, pre.length + 6 + 1, none⟩ = some (.int .u64 (M : Int)) := World.cell?_setCell_same _ _ _ c7
      have H5r : Hid (Rd (w4.setCell ⟨A, pre.length + 6 + 1, none⟩ (.int .u64 (M : Int))) B b _ _) := hide ((Below.heap_setCell _ _ _ _ (fun e => hnA e.symm)).trans hr4)
      have HX4 := hide ((HX3.out.grown nB hg4).set (a := ⟨A, pre.length + 6 + 1, none⟩) nA (.int .u64 (M : Int)))
      have s0 := HX4.out.c
      clear HB HH3 hg4 hr4 HX3 cX
      go_wp2_with fail
      generalize hW5 : w4.setCell ⟨A, pre.length + 6 + 1, none⟩ (.int .u64 (M : Int)) = w5 at *
      refine wp_region_held_drew (S := fun w' => w'.cell? ⟨w.heap.size, 0, none⟩ = some (.pointer (some ⟨B, 0, none⟩)) ∧ w'.cell? ⟨A, pre.length + 6, none⟩ = some (.int .i64 (N : Int)) ∧ w'.cell? ⟨A, pre.length + 6 + 1, none⟩ = some (.int .u64 (M : Int))) (by kernel_rfl) ⟨s0, s1, s2⟩ (fun hHeld => ?_)
      refine wpAnyH_take (i := 0) (v := .agg #[.pointer (some ⟨B, 0, none⟩)]) rfl (by kernel_rfl) (by kernel_rfl) (by kernel_rfl) (fun _ _ _ h => h) (Or.inl ⟨by rfl, fun w1 hSw => by have hS1 := hSw.1; have hS2 := hSw.2.1; have hS3 := hSw.2.2; clear hHeld; go_simp⟩) hHeld ?_
      simp only [Act.put, List.setIfInBounds_toArray]
      refine wpAnyH_take (i := 1) (v := .pointer (some ⟨A, pre.length + 6, none⟩)) rfl (by kernel_rfl) (by kernel_rfl) (by kernel_rfl) (fun _ _ _ h => h) (Or.inl ⟨by rfl, fun w1 hSw => by have hS1 := hSw.1; have hS2 := hSw.2.1; have hS3 := hSw.2.2; clear hHeld; go_simp⟩) hHeld ?_
      simp only [Act.put]
      refine wpAnyH_take (i := 2) (v := .pointer (some ⟨A, pre.length + 6, none⟩)) rfl (by kernel_rfl) (by kernel_rfl) (by kernel_rfl) (fun _ _ _ h => h) (Or.inl ⟨by rfl, fun w1 hSw => by have hS1 := hSw.1; have hS2 := hSw.2.1; have hS3 := hSw.2.2; clear hHeld; go_simp⟩) hHeld ?_
      simp only [Act.put]
      refine wpAnyH_take (i := 3) (v := .agg #[.int .i64 (N : Int), .int .u64 (M : Int)]) rfl (by kernel_rfl) (by kernel_rfl) (by kernel_rfl) (fun _ _ _ h => h) (Or.inl ⟨by rfl, fun w1 hSw => by have hS1 := hSw.1; have hS2 := hSw.2.1; have hS3 := hSw.2.2; clear hHeld; go_simp⟩) hHeld ?_
      simp only [Act.put]
      refine wpAnyH_ready (rs := [4]) (by kernel_rfl) (by simp) ?_
      refine AllReadyH.cons rfl (fun K hK => ?_) AllReadyH.nil
      go_simp
      refine (mayBitsR_any (N : Int) M _).mono ?_
      rintro e w6 ⟨rfl, rfl⟩
      rw [HD.out]
      have hb6 : Below w5.heap.size w5 (w5.drew.alloc (.cells #[.int .i64 (N : Int), .int .u64 (M : Int)] 29)) := (Below.refl _ _).drew.alloc (Nat.le_refl _) _
      have h6 := hide (rd_below H5r.out hb6)
      refine hK.out _ _ ⟨(hb6.cell (p := ⟨w.heap.size, 0, none⟩) (World.block_lt_of_cell? _ _ s0)).trans s0, (hb6.cell (p := ⟨A, pre.length + 6, none⟩) (World.block_lt_of_cell? _ _ s1)).trans s1, (hb6.cell (p := ⟨A, pre.length + 6 + 1, none⟩) (World.block_lt_of_cell? _ _ s2)).trans s2⟩ (fun hHeld => ?_)
      refine wpAnyH_ready (rs := [5]) (by kernel_rfl) (by simp) ?_
      refine AllReadyH.cons rfl (fun K2 hK2 => ?_) AllReadyH.nil
      go_simp
      refine (need_no h6.out _ (.inl hk2)).mono ?_
      rintro e w7 ⟨he, hb7⟩
      unfold Gives at he
      subst he
      have HF : Hid (RdQ w0 w7) := hide (h5.out.trans ((hb6.trans (hb7.mono hb6.size)).mono h5.out.size))
      exact ⟨rfl, Vis.none HS.out rfl HF.out⟩

end Go.Proofs.Ytlgcimfbhjidgaa
end
