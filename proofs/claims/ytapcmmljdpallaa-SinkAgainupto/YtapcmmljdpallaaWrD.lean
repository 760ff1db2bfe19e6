import Derived.Test.YtapcmmljdpallaaWrC
namespace Go.Proofs.Ytapcmmljdpallaa
open Go.RowKit
open Wr (Ms V L)

theorem cell_next {w : World} {A o : Nat} {x v : Value} (h : w.cell? ⟨A, o + 1, none⟩ = some v) : (w.setCell ⟨A, o, none⟩ x).cell? ⟨A, o + 1, none⟩ = some v := by
  exact (World.cell?_setCell_other (w := w) (a := ⟨A, o, none⟩) (b := ⟨A, o + 1, none⟩) (v := x) (by simp)).trans h
theorem frozen_set {w : World} {A o : Nat} {x : Value} (h : ∀ k, w.frozen? ⟨A, k, none⟩ = false) : ∀ k, (w.setCell ⟨A, o, none⟩ x).frozen? ⟨A, k, none⟩ = false := by
  intro k
  simpa using h k
set_option maxHeartbeats 400000 in
theorem res4_any {w : World} {X Y C A o B p f : Nat} {b : ByteArray} {u v : Value} (h : R3 w X Y C A o) (ha : w.cell? ⟨A, o, none⟩ = some u) (hb : w.cell? ⟨A, o + 1, none⟩ = some v) (hz : ∀ k, w.frozen? ⟨A, k, none⟩ = false)
    (hR : Rd w B b p f) (hp : p ≤ b.size) (hbs : b.size ≤ 140737488351232) (hAB : A ≠ B) (hA : A < X ∧ A < Y ∧ A < C) (hB : B < X ∧ B < Y ∧ B < C) :
    Calls Try.prog 75 #[.pointer (some ⟨B, 0, none⟩), p0 C, p0 X] w fun e w' => e = .returned (.tuple #[]) ∧ ∃ w1 w2, w.grownBy w1 (some B) ∧ (w1.setCell ⟨A, o, none⟩ (.int .i64 ((Wr.rdN b 7 p f).1 : Int))).grownBy w2 (some B) ∧
      Rd w2 B b ((Wr.rdB b (Wr.rdN b 7 p f).2.1 (Wr.rdN b 7 p f).2.2).2.1 : Int) ((Wr.rdB b (Wr.rdN b 7 p f).2.1 (Wr.rdN b 7 p f).2.2).2.2 : Int) ∧ w' = w2.setCell ⟨A, o + 1, none⟩ (.int .u64 ((Wr.rdB b (Wr.rdN b 7 p f).2.1 (Wr.rdN b 7 p f).2.2).1 : Int)) := by
  have c3 := h.c3
  have cX := h.a.c
  have lA := World.block_lt_of_cell? _ _ ha
  have HW := hide (whole4_any (most := 7) h.c ha (hz _) hR hp hbs (by decide) hAB hA.2.1 hB.2.1)
  have hp1 := (Wr.rdN_le b 7 p f hp).2
  unfold p0 at *
  go_enter Try.func75, Try.ntmps75
  go_wp2_with fail
  refine HW.out.mono ?_
  rintro e w0 ⟨rfl, w1, hg1, hR1, rfl⟩
  generalize hx : Value.int .i64 ((Wr.rdN b 7 p f).1 : Int) = x at *
  generalize hP : (Wr.rdN b 7 p f).2.1 = p1 at *
  generalize hF : (Wr.rdN b 7 p f).2.2 = f1 at *
  have hR2 := hR1.other ⟨A, o, none⟩ x (fun e => hAB e.symm)
  have kX := cell_other (a := ⟨A, o, none⟩) (u := x) (hg1.cell cX (show some X ≠ some B by simp; omega)) (show X ≠ A by omega)
  have kA1 := hg1.cell hb (show some A ≠ some B by simpa using hAB)
  have kA := cell_next (x := x) kA1
  have kz := frozen_set (x := x) (o := o) fun k => grown_frozen hg1 (hz k) lA (show some A ≠ some B by simpa using hAB)
  have lA2 : A < (w1.setCell ⟨A, o, none⟩ x).heap.size := World.block_lt_of_cell? _ _ kA
  have hsz : ∀ u, w1.grownBy (w1.setCell ⟨A, o, none⟩ u) (some A) := fun u => grown_set _ _ _ _
  have HX := hide (And.intro hx (And.intro hP hF))
  clear hx hP hF
  generalize hW : w1.setCell ⟨A, o, none⟩ x = W at *
  have HY := hide hW
  clear hW
  go_wp2_with fail
  go_region_held3 (fun w' => w'.cell? ⟨X, 0, none⟩ = some (.pointer (some ⟨A, o, none⟩))) (first | go_keep | exact s0 _) (first
    | (go_at_call 76; refine (rbitsP (hR2.drew _) hp1 hbs).mono ?_; rintro e w2 ⟨rfl, hR3, hg2⟩; have k0 := hg2.cell kX (show some X ≠ some B by simp; omega); have ka := hg2.cell kA (show some A ≠ some B by simpa using hAB); have kz2 := fun k => grown_frozen hg2 (kz k) lA2 (show some A ≠ some B by simpa using hAB); have s0 := fun u => cell_other (a := ⟨A, o + 1, none⟩) k0 (u := u) (show X ≠ A by omega)))
  go_wp2
  go_end0
  obtain ⟨hx, hP, hF⟩ := HX.out
  have hW := HY.out
  subst hx hP hF
  exact ⟨rfl, w1, w2, hg1, by rw [hW]; exact grown_trans (grown_drew W 1 _) hg2, hR3, rfl⟩
end Go.Proofs.Ytapcmmljdpallaa
