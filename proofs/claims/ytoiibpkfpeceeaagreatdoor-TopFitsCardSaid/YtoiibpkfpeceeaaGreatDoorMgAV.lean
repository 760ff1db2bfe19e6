import Derived.Test.YtoiibpkfpeceeaaGreatDoorMgAU

section
namespace Go.Proofs.YtoiibpkfpeceeaaGreatDoor
open Go.RowKit Go.Shelf

def exI : List In := [⟨1, 0, 0, 0, 0, 4609434218613702656⟩, ⟨21, 0, 0, 0, 0, 0⟩, ⟨14, 0, 0, 0, 3, 0⟩]
theorem ex_check : Pg.checkE 9 exI = (0, 0) := by kernel_rfl
theorem ex_print : Pg.printS 9 exI = ⟨#[102, 117, 101, 108, 32, 57, 10, 115, 101, 116, 32, 114, 48, 32, 51, 112, 45, 49, 10, 101, 109, 105, 116, 32, 114, 48, 10, 106, 117, 109, 112, 32, 51, 10]⟩ := by kernel_rfl
theorem ex_parse : Pg.parseS ⟨#[102, 117, 101, 108, 32, 57, 10, 115, 101, 116, 32, 114, 48, 32, 51, 112, 45, 49, 10, 101, 109, 105, 116, 32, 114, 48, 10, 106, 117, 109, 112, 32, 51, 10]⟩ = ((9, exI), (0, 0)) := by kernel_rfl
theorem ex_pack : Pg.packS 9 exI = ⟨#[9, 3, 1, 0, 63, 248, 0, 0, 0, 0, 0, 0, 21, 0, 14, 3]⟩ := by kernel_rfl
theorem ex_unpack : Pg.unpackS ⟨#[9, 3, 1, 0, 63, 248, 0, 0, 0, 0, 0, 0, 21, 0, 14, 3]⟩ = ((9, exI), 0) := by kernel_rfl
theorem ex_zero : Pg.checkE 0 [] = (56, 0) := by kernel_rfl
theorem ex_none : Pg.parseS ⟨#[]⟩ = ((0, []), (55, 1)) := by kernel_rfl
theorem ex_empty : Pg.unpackS ⟨#[]⟩ = ((0, []), 54) := by kernel_rfl
theorem exI_k : ∀ x ∈ exI, x.k < 18446744073709551616 := by decide

theorem cd_block {w : World} {b cap : Nat} {xs : List In} {t : TypeId} {fz : Nat × Nat} (h : w.heap[b]? = some (.cells (Pg.flat xs).toArray t fz)) : Cd w (.slice (some ⟨b, 0, none⟩) xs.length cap) xs := by
  refine ⟨_, cap, rfl, fun _ => ⟨b, 0, rfl, lt_of_block h, fun j hj i u hi => ?_⟩⟩
  have hi6 : i < 6 := (List.getElem?_eq_some_iff.1 hi).1
  rw [← flat_get In.cs 6 (fun _ => rfl) xs j i hj hi6] at hi
  simp only [World.cell?, h]
  show (Pg.flat xs).toArray[0 + j * 6 + i]? = some u
  rw [Nat.zero_add, List.getElem?_toArray]
  exact hi
theorem guardI (op : BinOp) (x y : Operand) (xs ys : Array Value) (w : World) : (eqGuard op 63 x y (.agg xs) (.agg ys)).run Tryz.prog w = .ok () w := run_eqGuard_agg w op _ x y xs ys (by kernel_rfl)
theorem eqI_self (x : In) (w : World) : (Op.equalIn 10000 63 (.agg #[.int .i64 x.op, .int .i64 x.a, .int .i64 x.b, .int .i64 x.c, .int .i64 x.n, .int .u64 (x.k : Int)]) (.agg #[.int .i64 x.op, .int .i64 x.a, .int .i64 x.b, .int .i64 x.c, .int .i64 x.n, .int .u64 (x.k : Int)])).run Tryz.prog w = .ok true w := by
  have u3 := Tryz.underlying3
  have a3 := Tryz.isAgg3
  have z3 := Tryz.sizeOf3
  have u9 := Tryz.underlying25
  have a9 := Tryz.isAgg25
  have z9 := Tryz.sizeOf25
  have hS : Tryz.prog.underlying 63 = some (.struct (Tryz.prog.fieldsOf 63)) := by kernel_rfl
  have hp : Tryz.prog.stoodInHeld 63 = false := by kernel_rfl
  rw [show (10000 : Nat) = 9999 + 1 from rfl, run_equalIn_agg w 9999 63 _ _ hS hp]
  simp only [Program.fieldsOf, Tryz.underlying63]
  go_simp
theorem neqI_self (x : In) (w : World) : (binOp .neq 63 (.agg #[.int .i64 x.op, .int .i64 x.a, .int .i64 x.b, .int .i64 x.c, .int .i64 x.n, .int .u64 (x.k : Int)]) (.agg #[.int .i64 x.op, .int .i64 x.a, .int .i64 x.b, .int .i64 x.c, .int .i64 x.n, .int .u64 (x.k : Int)])).run Tryz.prog w = .ok (.bool false) w := by
  rw [run_neq_struct, eqI_self]
  rfl
end Go.Proofs.YtoiibpkfpeceeaaGreatDoor
end
