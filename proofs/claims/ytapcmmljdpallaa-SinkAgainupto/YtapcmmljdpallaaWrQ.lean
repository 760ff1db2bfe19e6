import Derived.Test.YtapcmmljdpallaaWrH
import Derived.Laws.StructEq
namespace Go.Proofs.Ytapcmmljdpallaa
set_option maxRecDepth 20000
open Go.RowKit Go.Shelf
open Wr (Ms V L)
theorem toList_inj {a b : ByteArray} (h : a.toList = b.toList) : a = b := by
  rw [ByteArray.toList_eq, ByteArray.toList_eq] at h
  exact ByteArray.ext (Array.toList_inj.mp h)
set_option maxHeartbeats 1000000 in
theorem equalIn_msg (a b : Ms) (w : World) : (Op.equalIn 10000 61 (.agg (msgC a)) (.agg (msgC b))).run Try.prog w = .ok (decide (a = b)) w := by
  unfold msgC
  go_simp
  by_cases e : a = b
  · subst e; simp
  · rw [decide_eq_false e]
    repeat' split
    all_goals first
      | rfl
      | (exfalso; apply e; apply Ms.ext <;> first | assumption | omega | (apply toList_inj; assumption))
theorem eql_msg (a b : Ms) (w : World) : (binOp .eql 61 (.agg (msgC a)) (.agg (msgC b))).run Try.prog w = .ok (.bool (decide (a = b))) w := by
  rw [run_eql_struct, equalIn_msg]; rfl
theorem neq_msg (a b : Ms) (w : World) : (binOp .neq 61 (.agg (msgC a)) (.agg (msgC b))).run Try.prog w = .ok (.bool (!decide (a = b))) w := by
  rw [run_neq_struct, equalIn_msg]; rfl
end Go.Proofs.Ytapcmmljdpallaa
