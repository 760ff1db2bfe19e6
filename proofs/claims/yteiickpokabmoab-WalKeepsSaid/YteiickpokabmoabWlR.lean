import Derived.Test.YteiickpokabmoabWlQ
import Derived.Defers
namespace Go.Proofs.Yteiickpokabmoab
open Go.RowKit Go.Shelf
open Wl (Hd WS Log)

/-- only one block is turned -/
structure Onl (W : Nat) (w w' : World) : Prop where
  os : w'.os = w.os
  tape : w'.tape = w.tape
  output : w'.output = w.output
  size : w'.heap.size = w.heap.size
  block : ∀ j, j ≠ W → w'.heap[j]? = w.heap[j]?
theorem Onl.refl (W : Nat) (w : World) : Onl W w w := ⟨rfl, rfl, rfl, rfl, fun _ _ => rfl⟩
theorem Onl.set {W : Nat} {w w' : World} (h : Onl W w w') (k : Nat) (v : Value) : Onl W w (w'.setCell ⟨W, k, none⟩ v) :=
  ⟨h.os, h.tape, h.output, by rw [D.setCell_size]; exact h.size, fun j hj => (Below.heap_setCell _ _ _ _ hj).trans (h.block j hj)⟩
theorem onl7 (W : Nat) (w : World) (a b c d e f g : Value) : Onl W w (((((((w.setCell ⟨W, 0, none⟩ a).setCell ⟨W, 1, none⟩ b).setCell ⟨W, 2, none⟩ c).setCell ⟨W, 3, none⟩ d).setCell ⟨W, 4, none⟩ e).setCell ⟨W, 5, none⟩ f).setCell ⟨W, 6, none⟩ g) :=
  (((((((Onl.refl W w).set _ _).set _ _).set _ _).set _ _).set _ _).set _ _).set _ _
theorem wm7 {w : World} {W b : Nat} {ws ws1 : WS} (h : Wm w W b ws1) : Wm (((((((w.setCell ⟨W, 0, none⟩ (.pointer (some ⟨b, 0, none⟩))).setCell ⟨W, 1, none⟩ (.int .u64 (ws.h.num : Int))).setCell ⟨W, 2, none⟩ (.int .u8 (ws.h.half : Int))).setCell ⟨W, 3, none⟩ (.int .i64 (ws.h.sn : Int))).setCell ⟨W, 4, none⟩ (.int .i64 (ws.h.lg : Int))).setCell ⟨W, 5, none⟩ (.int .i64 (ws.rc : Int))).setCell ⟨W, 6, none⟩ (.bool ws.gone)) W b ws := by
  unfold Wm
  rw [setCell_self (setCell_self (setCell_self (setCell_self (setCell_self (setCell_self (setCell_self h _) _) _) _) _) _) _]
  rfl
theorem wm_gone {w : World} {W b : Nat} {ws : WS} (h : Wm w W b ws) : Wm (w.setCell ⟨W, 6, none⟩ (.bool true)) W b { ws with gone := true } := by
  unfold Wm
  rw [setCell_self h _]
  rfl
def wsAfter (k : Int) (ws ws1 : WS) : WS := if k = 0 then ws1 else if k = 2 then { ws with gone := true } else ws
set_option maxHeartbeats 1000000 in
set_option maxRecDepth 8000 in
theorem powered1_any {w : World} {W b X0 X1 X2 : Nat} {k : Int} {ws ws1 : WS} (hE : w.cell? ⟨X1, 0, none⟩ = some (.int .i64 k)) (hB : Wm w X2 b ws) (hX : w.cell? ⟨X0, 0, none⟩ = some (.pointer (some ⟨W, 0, none⟩))) (hW : Wm w W b ws1) (n0 : X0 ≠ W) (n1 : X1 ≠ W) (_n2 : X2 ≠ W) :
    CallsD Try.prog 33 #[.pointer (some ⟨X1, 0, none⟩), .pointer (some ⟨X2, 0, none⟩), .pointer (some ⟨X0, 0, none⟩)] .returning w fun e u' w' => u' = .returning ∧ (e = .returned (.tuple #[]) ∧ Wm w' W b (wsAfter k ws ws1) ∧ Onl W w w') := by
  have HW := hide hW
  have hWl := lt_of_block hW
  have hBl := lt_of_block hB
  obtain ⟨b0, b1, b2, b3, b4, b5, b6, bz⟩ := wm_cells hB
  obtain ⟨c0, c1, c2, c3, c4, c5, c6, cz⟩ := wm_cells hW
  have n0' : W ≠ X0 := Ne.symm n0
  have n1' : W ≠ X1 := Ne.symm n1
  by_cases hk : k = 0
  · subst hk
    have HA : Hid (wsAfter 0 ws ws1 = ws1) := hide (if_pos rfl)
    generalize wsAfter 0 ws ws1 = WA at *
    clear hW hB b0 b1 b2 b3 b4 b5 b6 c0 c1 c2 c3 c4 c5 c6
    go_enter_d Try.func33, Try.ntmps33
    go_wp2_with fail
    go_end0
    exact ⟨rfl, by rw [HA.out]; exact HW.out, Onl.refl _ _⟩
  have HS := hide (wm7 (ws := ws) hW)
  by_cases hk2 : k = 2
  · subst hk2
    have HA : Hid (wsAfter 2 ws ws1 = { ws with gone := true }) := hide (by unfold wsAfter; rw [if_neg (by decide), if_pos rfl])
    generalize wsAfter 2 ws ws1 = WA at *
    clear hW hB hk
    go_enter_d Try.func33, Try.ntmps33
    go_wp2_with fail
    go_end0
    exact ⟨rfl, by rw [HA.out]; exact wm_gone HS.out, (onl7 _ _ _ _ _ _ _ _ _).set _ _⟩
  · have HA : Hid (wsAfter k ws ws1 = ws) := hide (by unfold wsAfter; rw [if_neg hk, if_neg hk2])
    have bx : (k != 0) = true := by simpa using hk
    have bx2 : (k == 2) = false := by simpa using hk2
    generalize wsAfter k ws ws1 = WA at *
    clear hW hB hk hk2
    go_enter_d Try.func33, Try.ntmps33
    go_wp2_with fail
    go_end0
    exact ⟨rfl, by rw [HA.out]; exact HS.out, onl7 _ _ _ _ _ _ _ _ _⟩
end Go.Proofs.Yteiickpokabmoab
