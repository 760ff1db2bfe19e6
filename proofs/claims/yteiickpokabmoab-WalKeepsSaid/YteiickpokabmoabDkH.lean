import Derived.Test.YteiickpokabmoabDkG
namespace Go.Proofs.Yteiickpokabmoab.D
open Go.RowKit

theorem below_drewN (w : World) (n : Nat) : Below w.heap.size w (w.drewN n) := ⟨rfl, rfl, rfl, Nat.le_refl _, fun _ _ => rfl⟩

set_option maxHeartbeats 1000000 in
set_option maxRecDepth 8000 in
theorem same_true {w : World} {ad ad' : Option Addr} {ab ao ab' ao' cap cap' : Nat} {l : List ByteArray} (h : Rs w ad ab ao l) (h' : Rs w ad' ab' ao' l) (hl : l.length ≤ 8796093021952) :
    Calls Try.prog 10 #[.slice ad l.length cap, .slice ad' l.length cap'] w fun e w' => e = .returned (.bool true) ∧ ∃ n, w' = w.drewN n := by
  go_enter Try.func10, Try.ntmps10
  go_wp2
  go_loopw [5] (fun u wr => ∃ i n : Nat, u = .int .i64 (i : Int) ∧ i ≤ l.length ∧ wr = w.drewN n) (fun u _ => (l.length - (intOf u).toNat))
  case atStart => exact ⟨0, 0, rfl, Nat.zero_le _, rfl⟩
  case round =>
    obtain ⟨i, n, rfl, hi, rfl⟩ := hrel
    by_cases hil : i < l.length
    · have ea := h.at_ (by omega)
      have ea' := h'.at_ (by omega)
      have c0 := h.cell i hil
      have c1 := h'.cell i hil
      generalize l[i] = s at c0 c1
      subst ea; subst ea'
      have H := hide h
      have H' := hide h'
      clear h h'
      go_wp2
      go_quiet (fail)
      go_wp2
      exact ⟨⟨i + 1, _, by go_num, by omega, rfl⟩, by simp [intOf]; omega⟩
    · obtain rfl : i = l.length := by omega
      clear h h'
      go_wp2
      go_ret
      exact ⟨rfl, _, rfl⟩

/-- the test ahead of '!=' -/
theorem guardW (op : BinOp) (x y : Operand) (xs ys : Array Value) (w : World) : (eqGuard op 51 x y (.agg xs) (.agg ys)).run Try.prog w = .ok () w := run_eqGuard_agg w op _ x y xs ys (by kernel_rfl)
theorem eqW_self (d : Wr) (w : World) : (Op.equalIn 10000 51 (.agg #[.int .i64 d.sec, .string d.data]) (.agg #[.int .i64 d.sec, .string d.data])).run Try.prog w = .ok true w := by
  have u3 := Try.underlying3
  have a3 := Try.isAgg3
  have z3 := Try.sizeOf3
  have u9 := Try.underlying9
  have a9 := Try.isAgg9
  have z9 := Try.sizeOf9
  have hS : Try.prog.underlying 51 = some (.struct (Try.prog.fieldsOf 51)) := by kernel_rfl
  have hp : Try.prog.stoodInHeld 51 = false := by kernel_rfl
  rw [show (10000 : Nat) = 9999 + 1 from rfl, run_equalIn_agg w 9999 51 _ _ hS hp]
  simp only [Program.fieldsOf, Try.underlying51]
  go_simp
theorem neqW_self (d : Wr) (w : World) : (binOp .neq 51 (.agg #[.int .i64 d.sec, .string d.data]) (.agg #[.int .i64 d.sec, .string d.data])).run Try.prog w = .ok (.bool false) w := by
  rw [run_neq_struct, eqW_self]
  rfl

def all8 (l : List ByteArray) : Bool := l.all fun s => s.size == 128
theorem all8_A {l : List ByteArray} (h : all8 l = true) : A128 l := by
  intro s hs
  have := List.all_eq_true.1 h s hs
  simpa using this
theorem all8_of {l : List ByteArray} (h : A128 l) : all8 l = true := List.all_eq_true.2 fun s hs => by simpa using h s hs

end Go.Proofs.Yteiickpokabmoab.D
