import Derived.Test.YtbbgkajmacknkaaGreatMgAL
import Derived.ProofKit
import Derived.OpenShut
import Derived.ShutString
import Derived.SizedLaws
import Derived.Carry
import Derived.Deep.SlicePairs
import Derived.Deep.Strs
import Derived.Lib.SmallJoins

section
namespace Go.Proofs.YtbbgkajmacknkaaGreat
set_option maxRecDepth 20000
open Go.ChangeShapes Go.WideShapes Go.ChangeAt Go.RowKit Go.Deep
open Wr (Ms)

theorem own : ownKnob Tryz.prog.godebug = none := by kernel_rfl
theorem Tryz.laidOut : laidOutB Tryz.prog = true := by kernel_rfl
theorem Tryz.cellsI1 : Tryz.prog.cellsOf 3 = 1 := by kernel_rfl
theorem Tryz.cellsS1 : Tryz.prog.cellsOf 9 = 1 := by kernel_rfl
theorem Tryz.cellsU1 : Tryz.prog.cellsOf 23 = 1 := by kernel_rfl
theorem Tryz.cellsR2 : Tryz.prog.cellsOf 25 = 2 := by kernel_rfl
theorem Tryz.cellsM11 : Tryz.prog.cellsOf 27 = 11 := by kernel_rfl
theorem array11 {α : Type} {cs : Array α} (h : cs.size = 11) : ∃ c0 c1 c2 c3 c4 c5 c6 c7 c8 c9 c10, cs = #[c0, c1, c2, c3, c4, c5, c6, c7, c8, c9, c10] := by
  obtain ⟨l⟩ := cs
  match l, h with
  | [c0, c1, c2, c3, c4, c5, c6, c7, c8, c9, c10], _ => exact ⟨c0, c1, c2, c3, c4, c5, c6, c7, c8, c9, c10, rfl⟩
/-- a message, opened -/
theorem msg_of {H : Type} {enc : TypeId × Value → H} {W : World} {base : Nat} {v : Value} {d : DataW H} {ps : List MemPlace} (hv : Value.okWide Tryz.prog W .any base 27 v) (h : DataW.Trod enc Tryz.prog W 0 (fun _ => true) true 27 v d ps) :
    ∃ m : Ms, v = .agg (msgC m) ∧ m.rb < 18446744073709551616 := by
  obtain ⟨cs, rfl, hsz⟩ := okWide_struct Tryz.underlying27 hv
  obtain ⟨c0, c1, c2, c3, c4, c5, c6, c7, c8, c9, c10, rfl⟩ := array11 (hsz.trans Tryz.cellsM11)
  obtain ⟨fuel, hf⟩ := h
  obtain ⟨xs, n, _, _, hl, hlen, hfi⟩ := DataW.trod_struct Tryz.underlying27 hf
  have hx : ∀ i, i < 10 → ∃ y, xs[i]? = some y := fun i hi => ⟨xs[i]'(by rw [hlen]; exact hi), List.getElem?_eq_getElem _⟩
  obtain ⟨y0, hy0⟩ := hx 0 (by decide)
  have g0 : DataW.trod enc Tryz.prog W 0 (fun _ => true) true n 3 [c0] = some y0 := by
    have this : DataW.trod enc Tryz.prog W 0 (fun _ => true) true n 3 ((List.drop 0 [c0, c1, c2, c3, c4, c5, c6, c7, c8, c9, c10]).take (Tryz.prog.cellsOf 3)) = xs[0]? := hfi 0 _ rfl
    rw [Tryz.cellsI1] at this
    rw [← hy0]; exact this
  obtain ⟨z0, e0, _, _⟩ := DataW.trod_int Tryz.underlying3 g0
  obtain ⟨y1, hy1⟩ := hx 1 (by decide)
  have g1 : DataW.trod enc Tryz.prog W 0 (fun _ => true) true n 3 [c1] = some y1 := by
    have this : DataW.trod enc Tryz.prog W 0 (fun _ => true) true n 3 ((List.drop 1 [c0, c1, c2, c3, c4, c5, c6, c7, c8, c9, c10]).take (Tryz.prog.cellsOf 3)) = xs[1]? := hfi 1 _ rfl
    rw [Tryz.cellsI1] at this
    rw [← hy1]; exact this
  obtain ⟨z1, e1, _, _⟩ := DataW.trod_int Tryz.underlying3 g1
  obtain ⟨y2, hy2⟩ := hx 2 (by decide)
  have g2 : DataW.trod enc Tryz.prog W 0 (fun _ => true) true n 3 [c2] = some y2 := by
    have this : DataW.trod enc Tryz.prog W 0 (fun _ => true) true n 3 ((List.drop 2 [c0, c1, c2, c3, c4, c5, c6, c7, c8, c9, c10]).take (Tryz.prog.cellsOf 3)) = xs[2]? := hfi 2 _ rfl
    rw [Tryz.cellsI1] at this
    rw [← hy2]; exact this
  obtain ⟨z2, e2, _, _⟩ := DataW.trod_int Tryz.underlying3 g2
  obtain ⟨y3, hy3⟩ := hx 3 (by decide)
  have g3 : DataW.trod enc Tryz.prog W 0 (fun _ => true) true n 3 [c3] = some y3 := by
    have this : DataW.trod enc Tryz.prog W 0 (fun _ => true) true n 3 ((List.drop 3 [c0, c1, c2, c3, c4, c5, c6, c7, c8, c9, c10]).take (Tryz.prog.cellsOf 3)) = xs[3]? := hfi 3 _ rfl
    rw [Tryz.cellsI1] at this
    rw [← hy3]; exact this
  obtain ⟨z3, e3, _, _⟩ := DataW.trod_int Tryz.underlying3 g3
  obtain ⟨y4, hy4⟩ := hx 4 (by decide)
  have g4 : DataW.trod enc Tryz.prog W 0 (fun _ => true) true n 3 [c4] = some y4 := by
    have this : DataW.trod enc Tryz.prog W 0 (fun _ => true) true n 3 ((List.drop 4 [c0, c1, c2, c3, c4, c5, c6, c7, c8, c9, c10]).take (Tryz.prog.cellsOf 3)) = xs[4]? := hfi 4 _ rfl
    rw [Tryz.cellsI1] at this
    rw [← hy4]; exact this
  obtain ⟨z4, e4, _, _⟩ := DataW.trod_int Tryz.underlying3 g4
  obtain ⟨y5, hy5⟩ := hx 5 (by decide)
  have g5 : DataW.trod enc Tryz.prog W 0 (fun _ => true) true n 3 [c5] = some y5 := by
    have this : DataW.trod enc Tryz.prog W 0 (fun _ => true) true n 3 ((List.drop 5 [c0, c1, c2, c3, c4, c5, c6, c7, c8, c9, c10]).take (Tryz.prog.cellsOf 3)) = xs[5]? := hfi 5 _ rfl
    rw [Tryz.cellsI1] at this
    rw [← hy5]; exact this
  obtain ⟨z5, e5, _, _⟩ := DataW.trod_int Tryz.underlying3 g5
  obtain ⟨y6, hy6⟩ := hx 6 (by decide)
  have g6 : DataW.trod enc Tryz.prog W 0 (fun _ => true) true n 3 [c6] = some y6 := by
    have this : DataW.trod enc Tryz.prog W 0 (fun _ => true) true n 3 ((List.drop 6 [c0, c1, c2, c3, c4, c5, c6, c7, c8, c9, c10]).take (Tryz.prog.cellsOf 3)) = xs[6]? := hfi 6 _ rfl
    rw [Tryz.cellsI1] at this
    rw [← hy6]; exact this
  obtain ⟨z6, e6, _, _⟩ := DataW.trod_int Tryz.underlying3 g6
  obtain ⟨y7, hy7⟩ := hx 7 (by decide)
  have g7 : DataW.trod enc Tryz.prog W 0 (fun _ => true) true n 25 [c7, c8] = some y7 := by
    have this : DataW.trod enc Tryz.prog W 0 (fun _ => true) true n 25 ((List.drop 7 [c0, c1, c2, c3, c4, c5, c6, c7, c8, c9, c10]).take (Tryz.prog.cellsOf 25)) = xs[7]? := hfi 7 _ rfl
    rw [Tryz.cellsR2] at this
    rw [← hy7]; exact this
  obtain ⟨y8, hy8⟩ := hx 8 (by decide)
  have g8 : DataW.trod enc Tryz.prog W 0 (fun _ => true) true n 9 [c9] = some y8 := by
    have this : DataW.trod enc Tryz.prog W 0 (fun _ => true) true n 9 ((List.drop 9 [c0, c1, c2, c3, c4, c5, c6, c7, c8, c9, c10]).take (Tryz.prog.cellsOf 9)) = xs[8]? := hfi 8 _ rfl
    rw [Tryz.cellsS1] at this
    rw [← hy8]; exact this
  obtain ⟨z8, e8, _, _⟩ := DataW.trod_string Tryz.underlying9 g8
  obtain ⟨y9, hy9⟩ := hx 9 (by decide)
  have g9 : DataW.trod enc Tryz.prog W 0 (fun _ => true) true n 9 [c10] = some y9 := by
    have this : DataW.trod enc Tryz.prog W 0 (fun _ => true) true n 9 ((List.drop 10 [c0, c1, c2, c3, c4, c5, c6, c7, c8, c9, c10]).take (Tryz.prog.cellsOf 9)) = xs[9]? := hfi 9 _ rfl
    rw [Tryz.cellsS1] at this
    rw [← hy9]; exact this
  obtain ⟨z9, e9, _, _⟩ := DataW.trod_string Tryz.underlying9 g9
  obtain ⟨us, n2, _, _, hl2, hlen2, hfi2⟩ := DataW.trod_struct Tryz.underlying25 g7
  have hu : ∀ i, i < 2 → ∃ y, us[i]? = some y := fun i hi => ⟨us[i]'(by rw [hlen2]; exact hi), List.getElem?_eq_getElem _⟩
  obtain ⟨u0, hu0⟩ := hu 0 (by decide)
  obtain ⟨u1, hu1⟩ := hu 1 (by decide)
  have k0 : DataW.trod enc Tryz.prog W 0 (fun _ => true) true n2 3 [c7] = some u0 := by
    have this : DataW.trod enc Tryz.prog W 0 (fun _ => true) true n2 3 ((List.drop 0 [c7, c8]).take (Tryz.prog.cellsOf 3)) = us[0]? := hfi2 0 _ rfl
    rw [Tryz.cellsI1] at this
    rw [← hu0]; exact this
  have k1 : DataW.trod enc Tryz.prog W 0 (fun _ => true) true n2 23 [c8] = some u1 := by
    have this : DataW.trod enc Tryz.prog W 0 (fun _ => true) true n2 23 ((List.drop 1 [c7, c8]).take (Tryz.prog.cellsOf 23)) = us[1]? := hfi2 1 _ rfl
    rw [Tryz.cellsU1] at this
    rw [← hu1]; exact this
  obtain ⟨r0, f0, _, _⟩ := DataW.trod_int Tryz.underlying3 k0
  obtain ⟨r1, f1, _, wf1⟩ := DataW.trod_int Tryz.underlying23 k1
  simp only [List.cons.injEq, and_true] at e0 e1 e2 e3 e4 e5 e6 e8 e9 f0 f1
  subst e0 e1 e2 e3 e4 e5 e6 e8 e9
  subst f0 f1
  have hb := bounds_u64 wf1
  exact ⟨⟨z0, z1, z2, z3, z4, z5, z6, r0, r1.toNat, z8, z9⟩, by unfold msgC; rw [show ((r1.toNat : Nat) : Int) = r1 by omega], by show r1.toNat < _; omega⟩
end Go.Proofs.YtbbgkajmacknkaaGreat
end
