import Derived.Test.YtonoogiadgjodaaSoLa
import Derived.Test.YtonoogiadgjodaaSoG
import Derived.Deep.DeepCutAuto
namespace Go.Proofs.Ytonoogiadgjodaa
open Go.RowKit

section
variable {B : Nat} {w w' : World} {A : Ja} {j : Jt} {own : Int → Int} {N : Int}
/-- behind an act -/
def DoP (B : Nat) (N : Int) (A : Ja) (w : World) (e : Ending) (w' : World) : Prop := e = .returned (.tuple #[]) ∧ ∃ own' A' j', A'.a = A.a ∧ Inv own' (N + 3) j' ∧ Jm B w' A' j' ∧ Jv A A' w w'
theorem Cl.tick_m (c : Cl) : c.tick.m = c.m := by unfold Cl.tick; split <;> rfl
theorem Cl.tick_s (c : Cl) : c.tick.se = c.se ∧ c.tick.gr = c.gr ∧ c.tick.la = c.la := by unfold Cl.tick; split <;> exact ⟨rfl, rfl, rfl⟩
theorem msg_cells {X : Nat} {a0 a1 a2 a3 a4 a5 a6 a7 a8 a9 a10 : Value} {t : TypeId} (h : w.heap[X]? = some (.cells #[a0, a1, a2, a3, a4, a5, a6, a7, a8, a9, a10] t (0, 0))) : w.cell? ⟨X, 0, none⟩ = some a0 ∧ w.cell? ⟨X, 1, none⟩ = some a1 ∧ w.cell? ⟨X, 2, none⟩ = some a2 ∧ w.cell? ⟨X, 3, none⟩ = some a3 ∧ w.cell? ⟨X, 4, none⟩ = some a4 ∧ w.cell? ⟨X, 5, none⟩ = some a5 ∧ w.cell? ⟨X, 6, none⟩ = some a6 ∧ w.cell? ⟨X, 7, none⟩ = some a7 ∧ w.cell? ⟨X, 8, none⟩ = some a8 ∧ w.cell? ⟨X, 9, none⟩ = some a9 ∧ w.cell? ⟨X, 10, none⟩ = some a10 := by simp [World.cell?, h]
end
end Go.Proofs.Ytonoogiadgjodaa
