import Derived.Test.YtjabnddjahhgoaaRcC
import Derived.Laws.StructEq
namespace Go.Proofs.Ytjabnddjahhgoaa
open Go.RowKit
open Rc (L V Ch)

theorem toList_inj {a b : ByteArray} (h : a.toList = b.toList) : a = b := by
  rw [ByteArray.toList_eq, ByteArray.toList_eq] at h
  exact ByteArray.ext (Array.toList_inj.mp h)
theorem eql_res (a b : Int) (m n : Nat) (w : World) : (binOp .eql 26 (.agg #[.int .i64 a, .int .u64 (m : Int)]) (.agg #[.int .i64 b, .int .u64 (n : Int)])).run Try.prog w = .ok (.bool (decide (a = b ∧ m = n))) w := by
  have : (Op.equalIn 10000 26 (.agg #[.int .i64 a, .int .u64 (m : Int)]) (.agg #[.int .i64 b, .int .u64 (n : Int)])).run Try.prog w = .ok (decide (a = b ∧ m = n)) w := by
    go_simp
    by_cases e : a = b ∧ m = n
    · obtain ⟨rfl, rfl⟩ := e; simp
    · by_cases h1 : a = b
      · have h2 : ¬ m = n := fun h => e ⟨h1, h⟩
        have h3 : ¬ (m : Int) = (n : Int) := fun h => h2 (by omega)
        simp [h1, h2, h3]
      · simp [h1]
  rw [run_eql_struct, this]; rfl
theorem blank_iff (c : Ch) : c = Rc.zC c.k ↔ c.n = 0 ∧ c.jo = 0 ∧ c.ba = 0 ∧ c.sl = 0 ∧ c.li = 0 ∧ c.rc = 0 ∧ c.rb = 0 ∧ c.pr = ⟨#[]⟩ ∧ c.tx.length = 0 := by
  constructor
  · intro h; rw [h]; exact ⟨rfl, rfl, rfl, rfl, rfl, rfl, rfl, rfl, rfl⟩
  · rintro ⟨h1, h2, h3, h4, h5, h6, h7, h8, h9⟩
    exact Rc.Ch.ext rfl h1 h2 h3 h4 h5 h6 h7 h8 (List.length_eq_zero_iff.mp h9)

set_option maxHeartbeats 800000 in
theorem isBlank_any (c : Ch) (p : Option Addr) (cap : Nat) (w : World) : Calls Try.prog 23 #[.agg (chC c (.slice p c.tx.length cap))] w fun e w' => e = .returned (.bool (decide (c = Rc.zC c.k))) ∧ w' = w.alloc (.cells (chC c (.slice p c.tx.length cap)) 29) := by
  have hb := blank_iff c
  obtain ⟨k, n, jo, ba, sl, li, rc, rb, pr, tx⟩ := c
  simp only [chC] at hb ⊢
  by_cases h_n : n = 0
  case neg =>
    rw [decide_eq_false (fun h => h_n (by have := hb.mp h; omega))]
    have b0 : (n == 0) = false := beq_eq_false_iff_ne.2 h_n
    clear hb h_n
    go_enter Try.func23, Try.ntmps23
    go_wp2
    go_ret
    exact ⟨rfl, rfl⟩
  subst h_n
  by_cases h_jo : jo = 0
  case neg =>
    rw [decide_eq_false (fun h => h_jo (by have := hb.mp h; omega))]
    have b0 : (jo == 0) = false := beq_eq_false_iff_ne.2 h_jo
    clear hb h_jo
    go_enter Try.func23, Try.ntmps23
    go_wp2
    go_ret
    exact ⟨rfl, rfl⟩
  subst h_jo
  by_cases h_ba : ba = 0
  case neg =>
    rw [decide_eq_false (fun h => h_ba (by have := hb.mp h; omega))]
    have b0 : (ba == 0) = false := beq_eq_false_iff_ne.2 h_ba
    clear hb h_ba
    go_enter Try.func23, Try.ntmps23
    go_wp2
    go_ret
    exact ⟨rfl, rfl⟩
  subst h_ba
  by_cases h_sl : sl = 0
  case neg =>
    rw [decide_eq_false (fun h => h_sl (by have := hb.mp h; omega))]
    have b0 : (sl == 0) = false := beq_eq_false_iff_ne.2 h_sl
    clear hb h_sl
    go_enter Try.func23, Try.ntmps23
    go_wp2
    go_ret
    exact ⟨rfl, rfl⟩
  subst h_sl
  by_cases h_li : li = 0
  case neg =>
    rw [decide_eq_false (fun h => h_li (by have := hb.mp h; omega))]
    have b0 : (li == 0) = false := beq_eq_false_iff_ne.2 h_li
    clear hb h_li
    go_enter Try.func23, Try.ntmps23
    go_wp2
    go_ret
    exact ⟨rfl, rfl⟩
  subst h_li
  have hE : ∀ (w : World), (binOp .eql 26 (.agg #[.int .i64 rc, .int .u64 (rb : Int)]) (.agg #[.int .i64 0, .int .u64 0])).run Try.prog w = .ok (.bool (decide (rc = 0 ∧ rb = 0))) w := fun w => eql_res rc 0 rb 0 w
  by_cases h_r : rc = 0 ∧ rb = 0
  case neg =>
    rw [decide_eq_false (fun h => h_r (by have := hb.mp h; omega))]
    rw [decide_eq_false h_r] at hE
    clear hb h_r
    go_enter Try.func23, Try.ntmps23
    go_wp2
    go_ret
    exact ⟨rfl, rfl⟩
  rw [decide_eq_true h_r] at hE
  by_cases h_p : pr = ⟨#[]⟩
  case neg =>
    rw [decide_eq_false (fun h => h_p (by have := hb.mp h; exact this.2.2.2.2.2.2.2.1))]
    have b0 : (pr.toList == []) = false := beq_eq_false_iff_ne.2 (fun h => h_p (toList_inj (h.trans (by rw [ByteArray.toList_eq]))))
    have b1 : ¬ pr.toList = [] := fun h => h_p (toList_inj (h.trans (by rw [ByteArray.toList_eq])))
    clear hb h_r h_p
    go_enter Try.func23, Try.ntmps23
    go_wp2
    go_ret
    exact ⟨rfl, rfl⟩
  subst h_p
  by_cases h_t : tx.length = 0
  case neg =>
    rw [decide_eq_false (fun h => h_t (by have := hb.mp h; exact this.2.2.2.2.2.2.2.2))]
    have b0 : ((tx.length : Int) == 0) = false := beq_eq_false_iff_ne.2 (by omega)
    clear hb h_r
    generalize tx.length = m at *
    clear h_t
    go_enter Try.func23, Try.ntmps23
    go_wp2
    go_ret
    exact ⟨rfl, rfl⟩
  rw [decide_eq_true (hb.mpr ⟨rfl, rfl, rfl, rfl, rfl, h_r.1, h_r.2, rfl, h_t⟩), h_t]
  clear hb h_r
  go_enter Try.func23, Try.ntmps23
  go_wp2
  go_ret
  exact ⟨rfl, rfl⟩
end Go.Proofs.Ytjabnddjahhgoaa
