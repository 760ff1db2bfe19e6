import Derived.Test.YtonoogiadgjodaaSeJ
import Derived.Laws.StructEq
namespace Go.Proofs.Ytonoogiadgjodaa
open Go.RowKit
theorem toList_inj {a b : ByteArray} (h : a.toList = b.toList) : a = b := by
  rw [ByteArray.toList_eq, ByteArray.toList_eq] at h
  exact ByteArray.ext (Array.toList_inj.mp h)
set_option maxHeartbeats 1000000 in
theorem equalIn_sm (a b : Sm) (w : World) : (Op.equalIn 10000 36 (.agg (smC a)) (.agg (smC b))).run Try.prog w = .ok (decide (a = b)) w := by
  unfold smC
  go_simp
  by_cases e : a = b
  · subst e; simp
  · rw [decide_eq_false e]
    repeat' split
    all_goals first
      | rfl
      | (exfalso; apply e; apply Sm.ext <;> first | assumption | omega | (apply toList_inj; assumption))
theorem eql_sm (a b : Sm) (w : World) : (binOp .eql 36 (.agg (smC a)) (.agg (smC b))).run Try.prog w = .ok (.bool (decide (a = b))) w := by
  rw [run_eql_struct, equalIn_sm]; rfl
theorem neq_sm (a b : Sm) (w : World) : (binOp .neq 36 (.agg (smC a)) (.agg (smC b))).run Try.prog w = .ok (.bool (!decide (a = b))) w := by
  rw [run_neq_struct, equalIn_sm]; rfl
set_option maxHeartbeats 1000000 in
theorem equalIn_dk (a b : Dk) (w : World) : (Op.equalIn 10000 96 a.val b.val).run Try.prog w = .ok (decide (a = b)) w := by
  unfold Dk.val
  go_simp
  by_cases e : a = b
  · subst e; simp
  · rw [decide_eq_false e]
    repeat' split
    all_goals first
      | rfl
      | (exfalso; apply e; apply Dk.ext <;> first | assumption | omega | (apply toList_inj; assumption))
theorem neq_dk (a b : Dk) (w : World) : (binOp .neq 96 a.val b.val).run Try.prog w = .ok (.bool (!decide (a = b))) w := by
  have h := equalIn_dk a b w
  unfold Dk.val at h ⊢
  rw [run_neq_struct, h]; rfl
end Go.Proofs.Ytonoogiadgjodaa
