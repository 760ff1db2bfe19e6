import Derived.Test.YtkfnedhllfdghaaGreatDoorMgBD
import Derived.Test.YtkfnedhllfdghaaGreatDoorMgAN
import Derived.Deep.DeepCutAuto

section
namespace Go.Proofs.YtkfnedhllfdghaaGreatDoor.W
set_option maxRecDepth 20000
open Go.RowKit Go.Shelf
open Wr (Ms V L)

/-- the document's letters -/
def lowB (l : L) : UInt8 := UInt8.ofNat ((chr l).toNat + 32)
def nstr (k : Int) : ByteArray := if k < 1 ∨ 16 < k then ⟨#[63]⟩ else ⟨((Wr.letters k).map lowB).toArray⟩
def namesR : Array Value := #[.string ⟨#[63]⟩, .string ⟨#[]⟩, .string ⟨#[115, 110]⟩, .string ⟨#[115, 110, 98]⟩, .string ⟨#[115, 110, 98, 99, 114]⟩, .string ⟨#[98, 105, 116]⟩, .string ⟨#[106, 98, 105, 116]⟩, .string ⟨#[115]⟩, .string ⟨#[115, 110]⟩, .string ⟨#[115, 110, 106, 98, 112]⟩, .string ⟨#[115, 110]⟩, .string ⟨#[115, 110]⟩, .string ⟨#[115, 110]⟩, .string ⟨#[115, 110]⟩, .string ⟨#[98, 99]⟩, .string ⟨#[106, 98, 99]⟩, .string ⟨#[106, 98]⟩]
theorem namesR_at (k : Int) (h0 : 0 ≤ k) (h1 : k ≤ 16) : namesR[k.toNat]? = some (.string (nstr k)) := by
  have : k = 0 ∨ k = 1 ∨ k = 2 ∨ k = 3 ∨ k = 4 ∨ k = 5 ∨ k = 6 ∨ k = 7 ∨ k = 8 ∨ k = 9 ∨ k = 10 ∨ k = 11 ∨ k = 12 ∨ k = 13 ∨ k = 14 ∨ k = 15 ∨ k = 16 := by omega
  rcases this with rfl | rfl | rfl | rfl | rfl | rfl | rfl | rfl | rfl | rfl | rfl | rfl | rfl | rfl | rfl | rfl | rfl <;> rfl
theorem namesR_cell (k : Int) (h0 : 0 ≤ k) (h1 : k ≤ 16) (w : World) : (w.alloc (.cells namesR 9)).cell? ⟨w.heap.size, k.toNat, none⟩ = some (.string (nstr k)) := by
  have h := heap_alloc_new w (.cells namesR 9)
  unfold World.cell?
  rw [h]
  exact namesR_at k h0 h1
set_option maxRecDepth 8000 in
set_option maxHeartbeats 1000000 in
theorem rnamed_any (k : Int) (w : World) : Calls Tryz.prog 60 #[.int .i64 k] w fun e w' => e = .returned (.string (nstr k)) ∧ Below w.heap.size w w' := by
  by_cases h0 : k < 0
  · have b1 : decide (k < 0) = true := decide_eq_true h0
    have hn : nstr k = ⟨#[63]⟩ := if_pos (by omega)
    rw [hn]
    go_enter Tryz.func60, Tryz.ntmps60
    go_wp2
    go_ret
    exact ⟨rfl, below_alloc _ _⟩
  · have b1 : decide (k < 0) = false := decide_eq_false h0
    by_cases h1 : k ≥ 17
    · have b2 : decide (k ≥ 17) = true := decide_eq_true h1
      have hn : nstr k = ⟨#[63]⟩ := if_pos (by omega)
      rw [hn]
      go_enter Tryz.func60, Tryz.ntmps60
      go_wp2
      go_ret
      exact ⟨rfl, below_alloc _ _⟩
    · have b2 : decide (k ≥ 17) = false := decide_eq_false h1
      have hc := namesR_cell k (by omega) (by omega) w
      generalize nstr k = S at *
      obtain ⟨kn, rfl⟩ : ∃ kn : Nat, k = (kn : Int) := ⟨k.toNat, by omega⟩
      rw [Int.toNat_natCast] at hc
      unfold namesR at hc
      go_enter Tryz.func60, Tryz.ntmps60
      go_wp2
      go_ret
      exact ⟨rfl, below_alloc _ _⟩
theorem nstr_size (k : Int) : (nstr k).size ≤ 5 := by
  unfold nstr
  split
  · decide
  · have := letters_five k
    show (List.toArray _).size ≤ 5
    simpa using this
/-- is a letter there? -/
def hasB (s : ByteArray) (c : UInt8) : Bool := s.data.toList.contains c
theorem has_at {s : ByteArray} {i : Nat} (hi : i < s.size) (c : UInt8) : (s.data.toList.drop i).contains c = ((s[i]'hi == c) || (s.data.toList.drop (i + 1)).contains c) := by
  have h : i < s.data.toList.length := hi
  rw [List.drop_eq_getElem_cons h, List.contains_cons]
  rw [show s.data.toList[i] = s[i]'hi from rfl, Bool.beq_comm]
set_option maxRecDepth 8000 in
set_option maxHeartbeats 1000000 in
theorem rhas_any (k : Int) (c : UInt8) (w : World) : Calls Tryz.prog 114 #[.int .i64 k, .int .u8 (c.toNat : Int)] w fun e w' => e = .returned (.bool (hasB (nstr k) c)) ∧ Below w.heap.size w w' := by
  have HN := hide (rnamed_any k)
  have hs5 := nstr_size k
  generalize nstr k = s at *
  go_enter Tryz.func114, Tryz.ntmps114
  go_wp2_with fail
  refine (HN.out _).mono ?_
  rintro e w1 ⟨rfl, hb1⟩
  have HB := hide hb1
  clear hb1
  go_wp2
  go_loopw [6] (fun u wr => ∃ i : Nat, u = .int .i64 (i : Int) ∧ i ≤ s.size ∧ wr = w1 ∧ Hid (hasB s c = (s.data.toList.drop i).contains c)) (fun u _ => s.size - (intOf u).toNat)
  case atStart => exact ⟨0, rfl, Nat.zero_le _, rfl, rfl⟩
  case round =>
    obtain ⟨i, rfl, hi, rfl, HH⟩ := hrel
    by_cases hil : i < s.size
    · have d0 : decide ((i : Int) < (s.size : Int)) = true := by simp; omega
      have HX := hide (HH.out.trans (has_at hil c))
      have hix : ((i : Int)).toNat = i := rfl
      by_cases hx : s[i]'hil = c
      · have b1 : (((s[i]'hil).toNat : Int) == (c.toNat : Int)) = true := by rw [hx]; simp
        go_wp2
        go_ret
        exact ⟨by rw [HX.out, hx]; simp, HB.out⟩
      · have b1 : (((s[i]'hil).toNat : Int) == (c.toNat : Int)) = false := by apply beq_false_of_ne; intro e; exact hx (UInt8.toNat_inj.mp (by omega))
        go_wp2
        exact ⟨⟨i + 1, by go_num, by omega, (by first | rfl | trivial), by have := HX.out; rw [beq_false_of_ne hx, Bool.false_or] at this; exact this⟩, by simp [intOf]; omega⟩
    · have d0 : decide ((i : Int) < (s.size : Int)) = false := by simp; omega
      obtain rfl : i = s.size := by omega
      have hfin : hasB s c = false := by
        have := HH.out
        rw [Wr.size_list, List.drop_length] at this
        exact this
      go_wp2
      go_ret
      exact ⟨by rw [hfin]; rfl, HB.out⟩
theorem hasB_l (k : Int) (l : L) (h1 : 1 ≤ k) (h2 : k ≤ 16) : hasB (nstr k) (lowB l) = decide (l ∈ Wr.letters k) := by
  have : k = 1 ∨ k = 2 ∨ k = 3 ∨ k = 4 ∨ k = 5 ∨ k = 6 ∨ k = 7 ∨ k = 8 ∨ k = 9 ∨ k = 10 ∨ k = 11 ∨ k = 12 ∨ k = 13 ∨ k = 14 ∨ k = 15 ∨ k = 16 := by omega
  rcases this with rfl | rfl | rfl | rfl | rfl | rfl | rfl | rfl | rfl | rfl | rfl | rfl | rfl | rfl | rfl | rfl <;> cases l <;> rfl
def ixD (k : Int) : Int := if k = 5 then 31 else if k = 6 then 16 else 0
def ctD (k : Int) : Int := if k = 5 then 0 else if k = 6 then 0 else if k = 4 then 32 else if k = 14 then 32 else 17
set_option maxHeartbeats 1000000 in
theorem rmost_any (k : Int) (w : World) : Calls Tryz.prog 112 #[.int .i64 k] w fun e w' => e = .returned (.tuple #[.int .i64 (ixD k), .int .i64 (ctD k)]) ∧ w' = w := by
  have hs : k = 5 ∨ k = 6 ∨ k = 4 ∨ k = 14 ∨ (k ≠ 5 ∧ k ≠ 6 ∧ k ≠ 4 ∧ k ≠ 14) := by omega
  rcases hs with rfl | rfl | rfl | rfl | ⟨h5, h6, h4, h14⟩
  · go_enter Tryz.func112, Tryz.ntmps112
    go_wp2
    go_ret2
    exact ⟨rfl, rfl⟩
  · go_enter Tryz.func112, Tryz.ntmps112
    go_wp2
    go_ret2
    exact ⟨rfl, rfl⟩
  · go_enter Tryz.func112, Tryz.ntmps112
    go_wp2
    go_ret2
    exact ⟨rfl, rfl⟩
  · go_enter Tryz.func112, Tryz.ntmps112
    go_wp2
    go_ret2
    exact ⟨rfl, rfl⟩
  · have e1 : ixD k = 0 := by unfold ixD; rw [if_neg h5, if_neg h6]
    have e2 : ctD k = 17 := by unfold ctD; rw [if_neg h5, if_neg h6, if_neg h4, if_neg h14]
    rw [e1, e2]
    have b5 : (k == 5) = false := beq_false_of_ne h5
    have b6 : (k == 6) = false := beq_false_of_ne h6
    have b4 : (k == 4) = false := beq_false_of_ne h4
    have b14 : (k == 14) = false := beq_false_of_ne h14
    go_enter Tryz.func112, Tryz.ntmps112
    go_wp2
    go_ret2
    exact ⟨rfl, rfl⟩
def rgt (k : Int) (c : UInt8) (n lo hi : Int) : Bool := if hasB (nstr k) c then decide (lo ≤ n ∧ n ≤ hi) else decide (n = 0)
set_option maxHeartbeats 1000000 in
theorem rright_any (m : Ms) (c : UInt8) (n lo hi : Int) (w : World) : Calls Tryz.prog 113 #[.agg (msgC m), .int .u8 (c.toNat : Int), .int .i64 n, .int .i64 lo, .int .i64 hi] w fun e w' => e = .returned (.bool (rgt m.k c n lo hi)) ∧ Below w.heap.size w w' := by
  have HH := hide (rhas_any m.k c)
  unfold rgt msgC
  generalize hasB (nstr m.k) c = B at *
  cases B
  · have hr : (n == 0) = decide (n = 0) := rfl
    rw [if_neg (by decide)]
    go_enter Tryz.func113, Tryz.ntmps113
    go_wp2_with fail
    refine (HH.out _).mono ?_
    rintro e w1 ⟨rfl, hb1⟩
    have HB := hide ((below_alloc w _).trans (hb1.mono (by simp)))
    clear hb1
    go_wp2
    go_ret
    exact ⟨rfl, HB.out⟩
  · rw [if_pos rfl]
    by_cases h1 : lo ≤ n
    · have b1 : decide (n ≥ lo) = true := decide_eq_true h1
      rw [show decide (lo ≤ n ∧ n ≤ hi) = decide (n ≤ hi) by simp [h1]]
      go_enter Tryz.func113, Tryz.ntmps113
      go_wp2_with fail
      refine (HH.out _).mono ?_
      rintro e w1 ⟨rfl, hb1⟩
      have HB := hide ((below_alloc w _).trans (hb1.mono (by simp)))
      clear hb1
      go_wp2
      go_ret
      exact ⟨rfl, HB.out⟩
    · have b1 : decide (n ≥ lo) = false := decide_eq_false h1
      rw [show decide (lo ≤ n ∧ n ≤ hi) = false from decide_eq_false (by omega)]
      go_enter Tryz.func113, Tryz.ntmps113
      go_wp2_with fail
      refine (HH.out _).mono ?_
      rintro e w1 ⟨rfl, hb1⟩
      have HB := hide ((below_alloc w _).trans (hb1.mono (by simp)))
      clear hb1
      go_wp2
      go_ret
      exact ⟨rfl, HB.out⟩
end Go.Proofs.YtkfnedhllfdghaaGreatDoor.W
end

section
namespace Go.Proofs.YtkfnedhllfdghaaGreatDoor.W
set_option maxRecDepth 20000
open Go.RowKit Go.Shelf
open Wr (Ms V L)

theorem nstr_q (k : Int) (h1 : 1 ≤ k) (h2 : k ≤ 16) : ((nstr k).toList == [63]) = false := by
  rw [ByteArray.toList_eq]
  have : k = 1 ∨ k = 2 ∨ k = 3 ∨ k = 4 ∨ k = 5 ∨ k = 6 ∨ k = 7 ∨ k = 8 ∨ k = 9 ∨ k = 10 ∨ k = 11 ∨ k = 12 ∨ k = 13 ∨ k = 14 ∨ k = 15 ∨ k = 16 := by omega
  rcases this with rfl | rfl | rfl | rfl | rfl | rfl | rfl | rfl | rfl | rfl | rfl | rfl | rfl | rfl | rfl | rfl <;> rfl
def badB (m : Ms) : Bool := decide (m.rb ≠ 0) && (!hasB (nstr m.k) 114 || decide (m.rc ≠ 0) || decide (Gn.canonW m.rb ≠ m.rb))
def putB (m : Ms) : Bool := decide (m.k = 6) && decide (m.ix = 0) && decide (m.tx.size ≠ 0)
def docOk (m : Ms) : Bool := rgt m.k 115 m.se 1 1099511627776 && rgt m.k 110 m.nu 1 1099511627776 && rgt m.k 106 m.jo 1 8 && rgt m.k 98 m.ba 1 1099511627776 && rgt m.k 105 m.ix 0 (ixD m.k) && rgt m.k 99 m.co 0 (ctD m.k) && rgt m.k 114 m.rc 0 7 && rgt m.k 116 (m.tx.size : Int) 0 32 && rgt m.k 112 (m.pr.size : Int) 1 1024
def docCk (m : Ms) : Nat := if m.k < 1 ∨ 16 < m.k then 70 else if docOk m && !badB m && !putB m then 0 else 71
set_option maxRecDepth 8000 in
set_option maxHeartbeats 4000000 in
theorem rcheck_doc (m : Ms) (hrb : m.rb < 18446744073709551616) (w : World) : Calls Tryz.prog 64 #[.agg (msgC m)] w fun e w' => e = .returned (.int .i64 (docCk m : Int)) ∧ Below w.heap.size w w' := by
  have HN := hide (rnamed_any m.k)
  have HSt : Hid (Below (w.heap.size + 1) (w.alloc (.cells (msgC m) 67)) (w.alloc (.cells (msgC m) 67))) := Below.refl _ _
  by_cases hk : m.k < 1 ∨ 16 < m.k
  · have hD : docCk m = 70 := if_pos hk
    have hn : nstr m.k = ⟨#[63]⟩ := if_pos hk
    rw [hn] at HN
    rw [hD]
    unfold msgC at HSt ⊢
    go_enter Tryz.func64, Tryz.ntmps64
    go_wp2_with fail
    refine (HN.out _).mono ?_
    rintro e w1 ⟨rfl, hb1⟩
    have H1 := hide (below_in HSt.out hb1)
    clear hb1
    go_wp2
    go_ret
    exact ⟨rfl, b_out H1.out⟩
  · have hq := nstr_q m.k (by omega) (by omega)
    have HMo := hide (rmost_any m.k)
    have HHr := hide (rhas_any m.k 114)
    have HCa := hide (wcanon_any m.rb hrb)
    have hD : docCk m = if docOk m && !badB m && !putB m then 0 else 71 := if_neg hk
    rw [hD]
    unfold docOk badB
    have HqS : Hid (∀ W, Calls Tryz.prog 113 #[(.agg #[.int .i64 m.k, .int .i64 m.se, .int .i64 m.nu, .int .i64 m.jo, .int .i64 m.ba, .int .i64 m.ix, .int .i64 m.co, .int .i64 m.rc, .int .u64 (m.rb : Int), .string m.tx, .string m.pr]), .int .u8 115, .int .i64 m.se, .int .i64 1, .int .i64 1099511627776] W fun e w' => e = .returned (.bool (rgt m.k 115 m.se 1 1099511627776)) ∧ Below W.heap.size W w') := fun W => rright_any m 115 m.se 1 1099511627776 W
    have HqN : Hid (∀ W, Calls Tryz.prog 113 #[(.agg #[.int .i64 m.k, .int .i64 m.se, .int .i64 m.nu, .int .i64 m.jo, .int .i64 m.ba, .int .i64 m.ix, .int .i64 m.co, .int .i64 m.rc, .int .u64 (m.rb : Int), .string m.tx, .string m.pr]), .int .u8 110, .int .i64 m.nu, .int .i64 1, .int .i64 1099511627776] W fun e w' => e = .returned (.bool (rgt m.k 110 m.nu 1 1099511627776)) ∧ Below W.heap.size W w') := fun W => rright_any m 110 m.nu 1 1099511627776 W
    have HqJ : Hid (∀ W, Calls Tryz.prog 113 #[(.agg #[.int .i64 m.k, .int .i64 m.se, .int .i64 m.nu, .int .i64 m.jo, .int .i64 m.ba, .int .i64 m.ix, .int .i64 m.co, .int .i64 m.rc, .int .u64 (m.rb : Int), .string m.tx, .string m.pr]), .int .u8 106, .int .i64 m.jo, .int .i64 1, .int .i64 8] W fun e w' => e = .returned (.bool (rgt m.k 106 m.jo 1 8)) ∧ Below W.heap.size W w') := fun W => rright_any m 106 m.jo 1 8 W
    have HqB : Hid (∀ W, Calls Tryz.prog 113 #[(.agg #[.int .i64 m.k, .int .i64 m.se, .int .i64 m.nu, .int .i64 m.jo, .int .i64 m.ba, .int .i64 m.ix, .int .i64 m.co, .int .i64 m.rc, .int .u64 (m.rb : Int), .string m.tx, .string m.pr]), .int .u8 98, .int .i64 m.ba, .int .i64 1, .int .i64 1099511627776] W fun e w' => e = .returned (.bool (rgt m.k 98 m.ba 1 1099511627776)) ∧ Below W.heap.size W w') := fun W => rright_any m 98 m.ba 1 1099511627776 W
    have HqI : Hid (∀ W, Calls Tryz.prog 113 #[(.agg #[.int .i64 m.k, .int .i64 m.se, .int .i64 m.nu, .int .i64 m.jo, .int .i64 m.ba, .int .i64 m.ix, .int .i64 m.co, .int .i64 m.rc, .int .u64 (m.rb : Int), .string m.tx, .string m.pr]), .int .u8 105, .int .i64 m.ix, .int .i64 0, .int .i64 (ixD m.k)] W fun e w' => e = .returned (.bool (rgt m.k 105 m.ix 0 (ixD m.k))) ∧ Below W.heap.size W w') := fun W => rright_any m 105 m.ix 0 (ixD m.k) W
    have HqC : Hid (∀ W, Calls Tryz.prog 113 #[(.agg #[.int .i64 m.k, .int .i64 m.se, .int .i64 m.nu, .int .i64 m.jo, .int .i64 m.ba, .int .i64 m.ix, .int .i64 m.co, .int .i64 m.rc, .int .u64 (m.rb : Int), .string m.tx, .string m.pr]), .int .u8 99, .int .i64 m.co, .int .i64 0, .int .i64 (ctD m.k)] W fun e w' => e = .returned (.bool (rgt m.k 99 m.co 0 (ctD m.k))) ∧ Below W.heap.size W w') := fun W => rright_any m 99 m.co 0 (ctD m.k) W
    have HqR : Hid (∀ W, Calls Tryz.prog 113 #[(.agg #[.int .i64 m.k, .int .i64 m.se, .int .i64 m.nu, .int .i64 m.jo, .int .i64 m.ba, .int .i64 m.ix, .int .i64 m.co, .int .i64 m.rc, .int .u64 (m.rb : Int), .string m.tx, .string m.pr]), .int .u8 114, .int .i64 m.rc, .int .i64 0, .int .i64 7] W fun e w' => e = .returned (.bool (rgt m.k 114 m.rc 0 7)) ∧ Below W.heap.size W w') := fun W => rright_any m 114 m.rc 0 7 W
    have HqT : Hid (∀ W, Calls Tryz.prog 113 #[(.agg #[.int .i64 m.k, .int .i64 m.se, .int .i64 m.nu, .int .i64 m.jo, .int .i64 m.ba, .int .i64 m.ix, .int .i64 m.co, .int .i64 m.rc, .int .u64 (m.rb : Int), .string m.tx, .string m.pr]), .int .u8 116, .int .i64 (m.tx.size : Int), .int .i64 0, .int .i64 32] W fun e w' => e = .returned (.bool (rgt m.k 116 (m.tx.size : Int) 0 32)) ∧ Below W.heap.size W w') := fun W => rright_any m 116 (m.tx.size : Int) 0 32 W
    have HqP : Hid (∀ W, Calls Tryz.prog 113 #[(.agg #[.int .i64 m.k, .int .i64 m.se, .int .i64 m.nu, .int .i64 m.jo, .int .i64 m.ba, .int .i64 m.ix, .int .i64 m.co, .int .i64 m.rc, .int .u64 (m.rb : Int), .string m.tx, .string m.pr]), .int .u8 112, .int .i64 (m.pr.size : Int), .int .i64 1, .int .i64 1024] W fun e w' => e = .returned (.bool (rgt m.k 112 (m.pr.size : Int) 1 1024)) ∧ Below W.heap.size W w') := fun W => rright_any m 112 (m.pr.size : Int) 1 1024 W
    generalize rgt m.k 115 m.se 1 1099511627776 = rS at *
    generalize rgt m.k 110 m.nu 1 1099511627776 = rN at *
    generalize rgt m.k 106 m.jo 1 8 = rJ at *
    generalize rgt m.k 98 m.ba 1 1099511627776 = rB at *
    generalize rgt m.k 105 m.ix 0 (ixD m.k) = rI at *
    generalize rgt m.k 99 m.co 0 (ctD m.k) = rC at *
    generalize rgt m.k 114 m.rc 0 7 = rR at *
    generalize rgt m.k 116 (m.tx.size : Int) 0 32 = rT at *
    generalize rgt m.k 112 (m.pr.size : Int) 1 1024 = rP at *
    generalize hasB (nstr m.k) 114 = hr at *
    generalize nstr m.k = NS at *
    generalize hix : ixD m.k = IX at *
    generalize hct : ctD m.k = CT at *
    clear hix hct
    generalize hBD : (decide (m.rb ≠ 0) && (!hr || decide (m.rc ≠ 0) || decide (Gn.canonW m.rb ≠ m.rb))) = BD at *
    have HBD := hide hBD
    clear hBD
    generalize hE : (if (rS && rN && rJ && rB && rI && rC && rR && rT && rP && !BD && !putB m) = true then (0 : Nat) else 71) = E at *
    have HE := hide hE
    clear hE hD
    unfold msgC at HSt ⊢
    go_enter Tryz.func64, Tryz.ntmps64
    go_wp2_with fail
    refine (HN.out _).mono ?_
    rintro e w1 ⟨rfl, hb1⟩
    have H1 := hide (below_in HSt.out hb1)
    clear hb1
    have M1 := mg_in H1.out
    have a0 : w1.cell? ⟨w.heap.size, 0, none⟩ = some (.int .i64 m.k) := M1.all 0 _ rfl
    have a1 : w1.cell? ⟨w.heap.size, 1, none⟩ = some (.int .i64 m.se) := M1.all 1 _ rfl
    have a2 : w1.cell? ⟨w.heap.size, 2, none⟩ = some (.int .i64 m.nu) := M1.all 2 _ rfl
    have a3 : w1.cell? ⟨w.heap.size, 3, none⟩ = some (.int .i64 m.jo) := M1.all 3 _ rfl
    have a4 : w1.cell? ⟨w.heap.size, 4, none⟩ = some (.int .i64 m.ba) := M1.all 4 _ rfl
    have a5 : w1.cell? ⟨w.heap.size, 5, none⟩ = some (.int .i64 m.ix) := M1.all 5 _ rfl
    have a6 : w1.cell? ⟨w.heap.size, 6, none⟩ = some (.int .i64 m.co) := M1.all 6 _ rfl
    have a7 : w1.cell? ⟨w.heap.size, 7, none⟩ = some (.int .i64 m.rc) := M1.all 7 _ rfl
    have a8 : w1.cell? ⟨w.heap.size, 8, none⟩ = some (.int .u64 (m.rb : Int)) := M1.all 8 _ rfl
    have a9 : w1.cell? ⟨w.heap.size, 9, none⟩ = some (.string m.tx) := M1.all 9 _ rfl
    have a10 : w1.cell? ⟨w.heap.size, 10, none⟩ = some (.string m.pr) := M1.all 10 _ rfl
    clear M1
    go_upto_region 4 with (first | (go_at_call 112; refine (HMo.out _).mono ?_; rintro e w2 ⟨rfl, rfl⟩) | go_in)
    go_cut [5] (fun u5 wc => u5 = .bool (rS && rN && rJ && rB) ∧ Hid (Below (w.heap.size + 1) (w.alloc (.cells #[.int .i64 m.k, .int .i64 m.se, .int .i64 m.nu, .int .i64 m.jo, .int .i64 m.ba, .int .i64 m.ix, .int .i64 m.co, .int .i64 m.rc, .int .u64 (m.rb : Int), .string m.tx, .string m.pr] 67)) wc))
    case first =>
      go_wp2_with fail
      refine (HqS.out _).mono ?_
      rintro e xS ⟨rfl, hb⟩
      have XS := hide (below_in H1.out hb)
      clear hb
      have MM := mg_in XS.out
      have dS0 : xS.cell? ⟨w.heap.size, 0, none⟩ = some (.int .i64 m.k) := MM.all 0 _ rfl
      have dS1 : xS.cell? ⟨w.heap.size, 1, none⟩ = some (.int .i64 m.se) := MM.all 1 _ rfl
      have dS2 : xS.cell? ⟨w.heap.size, 2, none⟩ = some (.int .i64 m.nu) := MM.all 2 _ rfl
      have dS3 : xS.cell? ⟨w.heap.size, 3, none⟩ = some (.int .i64 m.jo) := MM.all 3 _ rfl
      have dS4 : xS.cell? ⟨w.heap.size, 4, none⟩ = some (.int .i64 m.ba) := MM.all 4 _ rfl
      have dS5 : xS.cell? ⟨w.heap.size, 5, none⟩ = some (.int .i64 m.ix) := MM.all 5 _ rfl
      have dS6 : xS.cell? ⟨w.heap.size, 6, none⟩ = some (.int .i64 m.co) := MM.all 6 _ rfl
      have dS7 : xS.cell? ⟨w.heap.size, 7, none⟩ = some (.int .i64 m.rc) := MM.all 7 _ rfl
      have dS8 : xS.cell? ⟨w.heap.size, 8, none⟩ = some (.int .u64 (m.rb : Int)) := MM.all 8 _ rfl
      have dS9 : xS.cell? ⟨w.heap.size, 9, none⟩ = some (.string m.tx) := MM.all 9 _ rfl
      have dS10 : xS.cell? ⟨w.heap.size, 10, none⟩ = some (.string m.pr) := MM.all 10 _ rfl
      clear MM
      cases rS
      · go_wp2_with fail
        go_meet
        case rel => exact ⟨by simp, XS.out⟩
      · go_wp2_with fail
        refine (HqN.out _).mono ?_
        rintro e xN ⟨rfl, hb⟩
        have XN := hide (below_in XS.out hb)
        clear hb
        have MM := mg_in XN.out
        have dN0 : xN.cell? ⟨w.heap.size, 0, none⟩ = some (.int .i64 m.k) := MM.all 0 _ rfl
        have dN1 : xN.cell? ⟨w.heap.size, 1, none⟩ = some (.int .i64 m.se) := MM.all 1 _ rfl
        have dN2 : xN.cell? ⟨w.heap.size, 2, none⟩ = some (.int .i64 m.nu) := MM.all 2 _ rfl
        have dN3 : xN.cell? ⟨w.heap.size, 3, none⟩ = some (.int .i64 m.jo) := MM.all 3 _ rfl
        have dN4 : xN.cell? ⟨w.heap.size, 4, none⟩ = some (.int .i64 m.ba) := MM.all 4 _ rfl
        have dN5 : xN.cell? ⟨w.heap.size, 5, none⟩ = some (.int .i64 m.ix) := MM.all 5 _ rfl
        have dN6 : xN.cell? ⟨w.heap.size, 6, none⟩ = some (.int .i64 m.co) := MM.all 6 _ rfl
        have dN7 : xN.cell? ⟨w.heap.size, 7, none⟩ = some (.int .i64 m.rc) := MM.all 7 _ rfl
        have dN8 : xN.cell? ⟨w.heap.size, 8, none⟩ = some (.int .u64 (m.rb : Int)) := MM.all 8 _ rfl
        have dN9 : xN.cell? ⟨w.heap.size, 9, none⟩ = some (.string m.tx) := MM.all 9 _ rfl
        have dN10 : xN.cell? ⟨w.heap.size, 10, none⟩ = some (.string m.pr) := MM.all 10 _ rfl
        clear MM
        cases rN
        · go_wp2_with fail
          go_meet
          case rel => exact ⟨by simp, XN.out⟩
        · go_wp2_with fail
          refine (HqJ.out _).mono ?_
          rintro e xJ ⟨rfl, hb⟩
          have XJ := hide (below_in XN.out hb)
          clear hb
          have MM := mg_in XJ.out
          have dJ0 : xJ.cell? ⟨w.heap.size, 0, none⟩ = some (.int .i64 m.k) := MM.all 0 _ rfl
          have dJ1 : xJ.cell? ⟨w.heap.size, 1, none⟩ = some (.int .i64 m.se) := MM.all 1 _ rfl
          have dJ2 : xJ.cell? ⟨w.heap.size, 2, none⟩ = some (.int .i64 m.nu) := MM.all 2 _ rfl
          have dJ3 : xJ.cell? ⟨w.heap.size, 3, none⟩ = some (.int .i64 m.jo) := MM.all 3 _ rfl
          have dJ4 : xJ.cell? ⟨w.heap.size, 4, none⟩ = some (.int .i64 m.ba) := MM.all 4 _ rfl
          have dJ5 : xJ.cell? ⟨w.heap.size, 5, none⟩ = some (.int .i64 m.ix) := MM.all 5 _ rfl
          have dJ6 : xJ.cell? ⟨w.heap.size, 6, none⟩ = some (.int .i64 m.co) := MM.all 6 _ rfl
          have dJ7 : xJ.cell? ⟨w.heap.size, 7, none⟩ = some (.int .i64 m.rc) := MM.all 7 _ rfl
          have dJ8 : xJ.cell? ⟨w.heap.size, 8, none⟩ = some (.int .u64 (m.rb : Int)) := MM.all 8 _ rfl
          have dJ9 : xJ.cell? ⟨w.heap.size, 9, none⟩ = some (.string m.tx) := MM.all 9 _ rfl
          have dJ10 : xJ.cell? ⟨w.heap.size, 10, none⟩ = some (.string m.pr) := MM.all 10 _ rfl
          clear MM
          cases rJ
          · go_wp2_with fail
            go_meet
            case rel => exact ⟨by simp, XJ.out⟩
          · go_wp2_with fail
            refine (HqB.out _).mono ?_
            rintro e xB ⟨rfl, hb⟩
            have XB := hide (below_in XJ.out hb)
            clear hb
            have MM := mg_in XB.out
            have dB0 : xB.cell? ⟨w.heap.size, 0, none⟩ = some (.int .i64 m.k) := MM.all 0 _ rfl
            have dB1 : xB.cell? ⟨w.heap.size, 1, none⟩ = some (.int .i64 m.se) := MM.all 1 _ rfl
            have dB2 : xB.cell? ⟨w.heap.size, 2, none⟩ = some (.int .i64 m.nu) := MM.all 2 _ rfl
            have dB3 : xB.cell? ⟨w.heap.size, 3, none⟩ = some (.int .i64 m.jo) := MM.all 3 _ rfl
            have dB4 : xB.cell? ⟨w.heap.size, 4, none⟩ = some (.int .i64 m.ba) := MM.all 4 _ rfl
            have dB5 : xB.cell? ⟨w.heap.size, 5, none⟩ = some (.int .i64 m.ix) := MM.all 5 _ rfl
            have dB6 : xB.cell? ⟨w.heap.size, 6, none⟩ = some (.int .i64 m.co) := MM.all 6 _ rfl
            have dB7 : xB.cell? ⟨w.heap.size, 7, none⟩ = some (.int .i64 m.rc) := MM.all 7 _ rfl
            have dB8 : xB.cell? ⟨w.heap.size, 8, none⟩ = some (.int .u64 (m.rb : Int)) := MM.all 8 _ rfl
            have dB9 : xB.cell? ⟨w.heap.size, 9, none⟩ = some (.string m.tx) := MM.all 9 _ rfl
            have dB10 : xB.cell? ⟨w.heap.size, 10, none⟩ = some (.string m.pr) := MM.all 10 _ rfl
            clear MM
            cases rB
            · go_wp2_with fail
              go_meet
              case rel => exact ⟨by simp, XB.out⟩
            · go_wp2_with fail
              go_meet
              case rel => exact ⟨rfl, XB.out⟩
    case rest =>
      obtain ⟨rfl, H4⟩ := hcut
      generalize hO4 : (rS && rN && rJ && rB) = O4 at *
      have HO4 := hide hO4
      clear hO4
      have MM := mg_in H4.out
      have b0 : wc.cell? ⟨w.heap.size, 0, none⟩ = some (.int .i64 m.k) := MM.all 0 _ rfl
      have b1 : wc.cell? ⟨w.heap.size, 1, none⟩ = some (.int .i64 m.se) := MM.all 1 _ rfl
      have b2 : wc.cell? ⟨w.heap.size, 2, none⟩ = some (.int .i64 m.nu) := MM.all 2 _ rfl
      have b3 : wc.cell? ⟨w.heap.size, 3, none⟩ = some (.int .i64 m.jo) := MM.all 3 _ rfl
      have b4 : wc.cell? ⟨w.heap.size, 4, none⟩ = some (.int .i64 m.ba) := MM.all 4 _ rfl
      have b5 : wc.cell? ⟨w.heap.size, 5, none⟩ = some (.int .i64 m.ix) := MM.all 5 _ rfl
      have b6 : wc.cell? ⟨w.heap.size, 6, none⟩ = some (.int .i64 m.co) := MM.all 6 _ rfl
      have b7 : wc.cell? ⟨w.heap.size, 7, none⟩ = some (.int .i64 m.rc) := MM.all 7 _ rfl
      have b8 : wc.cell? ⟨w.heap.size, 8, none⟩ = some (.int .u64 (m.rb : Int)) := MM.all 8 _ rfl
      have b9 : wc.cell? ⟨w.heap.size, 9, none⟩ = some (.string m.tx) := MM.all 9 _ rfl
      have b10 : wc.cell? ⟨w.heap.size, 10, none⟩ = some (.string m.pr) := MM.all 10 _ rfl
      clear MM a0 a1 a2 a3 a4 a5 a6 a7 a8 a9 a10
      go_upto_region 5 with fail
      go_cut [5] (fun u5 wc => u5 = .bool (O4 && rI && rC) ∧ Hid (Below (w.heap.size + 1) (w.alloc (.cells #[.int .i64 m.k, .int .i64 m.se, .int .i64 m.nu, .int .i64 m.jo, .int .i64 m.ba, .int .i64 m.ix, .int .i64 m.co, .int .i64 m.rc, .int .u64 (m.rb : Int), .string m.tx, .string m.pr] 67)) wc))
      case first =>
        cases O4
        · go_wp2_with fail
          go_meet
          case rel => exact ⟨by simp, H4.out⟩
        · go_wp2_with fail
          refine (HqI.out _).mono ?_
          rintro e xI ⟨rfl, hb⟩
          have XI := hide (below_in H4.out hb)
          clear hb
          have MM := mg_in XI.out
          have dI0 : xI.cell? ⟨w.heap.size, 0, none⟩ = some (.int .i64 m.k) := MM.all 0 _ rfl
          have dI1 : xI.cell? ⟨w.heap.size, 1, none⟩ = some (.int .i64 m.se) := MM.all 1 _ rfl
          have dI2 : xI.cell? ⟨w.heap.size, 2, none⟩ = some (.int .i64 m.nu) := MM.all 2 _ rfl
          have dI3 : xI.cell? ⟨w.heap.size, 3, none⟩ = some (.int .i64 m.jo) := MM.all 3 _ rfl
          have dI4 : xI.cell? ⟨w.heap.size, 4, none⟩ = some (.int .i64 m.ba) := MM.all 4 _ rfl
          have dI5 : xI.cell? ⟨w.heap.size, 5, none⟩ = some (.int .i64 m.ix) := MM.all 5 _ rfl
          have dI6 : xI.cell? ⟨w.heap.size, 6, none⟩ = some (.int .i64 m.co) := MM.all 6 _ rfl
          have dI7 : xI.cell? ⟨w.heap.size, 7, none⟩ = some (.int .i64 m.rc) := MM.all 7 _ rfl
          have dI8 : xI.cell? ⟨w.heap.size, 8, none⟩ = some (.int .u64 (m.rb : Int)) := MM.all 8 _ rfl
          have dI9 : xI.cell? ⟨w.heap.size, 9, none⟩ = some (.string m.tx) := MM.all 9 _ rfl
          have dI10 : xI.cell? ⟨w.heap.size, 10, none⟩ = some (.string m.pr) := MM.all 10 _ rfl
          clear MM
          cases rI
          · go_wp2_with fail
            go_meet
            case rel => exact ⟨by simp, XI.out⟩
          · go_wp2_with fail
            refine (HqC.out _).mono ?_
            rintro e xC ⟨rfl, hb⟩
            have XC := hide (below_in XI.out hb)
            clear hb
            have MM := mg_in XC.out
            have dC0 : xC.cell? ⟨w.heap.size, 0, none⟩ = some (.int .i64 m.k) := MM.all 0 _ rfl
            have dC1 : xC.cell? ⟨w.heap.size, 1, none⟩ = some (.int .i64 m.se) := MM.all 1 _ rfl
            have dC2 : xC.cell? ⟨w.heap.size, 2, none⟩ = some (.int .i64 m.nu) := MM.all 2 _ rfl
            have dC3 : xC.cell? ⟨w.heap.size, 3, none⟩ = some (.int .i64 m.jo) := MM.all 3 _ rfl
            have dC4 : xC.cell? ⟨w.heap.size, 4, none⟩ = some (.int .i64 m.ba) := MM.all 4 _ rfl
            have dC5 : xC.cell? ⟨w.heap.size, 5, none⟩ = some (.int .i64 m.ix) := MM.all 5 _ rfl
            have dC6 : xC.cell? ⟨w.heap.size, 6, none⟩ = some (.int .i64 m.co) := MM.all 6 _ rfl
            have dC7 : xC.cell? ⟨w.heap.size, 7, none⟩ = some (.int .i64 m.rc) := MM.all 7 _ rfl
            have dC8 : xC.cell? ⟨w.heap.size, 8, none⟩ = some (.int .u64 (m.rb : Int)) := MM.all 8 _ rfl
            have dC9 : xC.cell? ⟨w.heap.size, 9, none⟩ = some (.string m.tx) := MM.all 9 _ rfl
            have dC10 : xC.cell? ⟨w.heap.size, 10, none⟩ = some (.string m.pr) := MM.all 10 _ rfl
            clear MM
            cases rC
            · go_wp2_with fail
              go_meet
              case rel => exact ⟨by simp, XC.out⟩
            · go_wp2_with fail
              go_meet
              case rel => exact ⟨rfl, XC.out⟩
      case rest =>
        obtain ⟨rfl, H5⟩ := hcut
        generalize hO5 : (O4 && rI && rC) = O5 at *
        have HO5 := hide hO5
        clear hO5
        have MM := mg_in H5.out
        have c0 : wc.cell? ⟨w.heap.size, 0, none⟩ = some (.int .i64 m.k) := MM.all 0 _ rfl
        have c1 : wc.cell? ⟨w.heap.size, 1, none⟩ = some (.int .i64 m.se) := MM.all 1 _ rfl
        have c2 : wc.cell? ⟨w.heap.size, 2, none⟩ = some (.int .i64 m.nu) := MM.all 2 _ rfl
        have c3 : wc.cell? ⟨w.heap.size, 3, none⟩ = some (.int .i64 m.jo) := MM.all 3 _ rfl
        have c4 : wc.cell? ⟨w.heap.size, 4, none⟩ = some (.int .i64 m.ba) := MM.all 4 _ rfl
        have c5 : wc.cell? ⟨w.heap.size, 5, none⟩ = some (.int .i64 m.ix) := MM.all 5 _ rfl
        have c6 : wc.cell? ⟨w.heap.size, 6, none⟩ = some (.int .i64 m.co) := MM.all 6 _ rfl
        have c7 : wc.cell? ⟨w.heap.size, 7, none⟩ = some (.int .i64 m.rc) := MM.all 7 _ rfl
        have c8 : wc.cell? ⟨w.heap.size, 8, none⟩ = some (.int .u64 (m.rb : Int)) := MM.all 8 _ rfl
        have c9 : wc.cell? ⟨w.heap.size, 9, none⟩ = some (.string m.tx) := MM.all 9 _ rfl
        have c10 : wc.cell? ⟨w.heap.size, 10, none⟩ = some (.string m.pr) := MM.all 10 _ rfl
        clear MM b0 b1 b2 b3 b4 b5 b6 b7 b8 b9 b10
        go_upto_region 6 with fail
        go_cut [5] (fun u5 wc => u5 = .bool (O5 && rR && rT && rP) ∧ Hid (Below (w.heap.size + 1) (w.alloc (.cells #[.int .i64 m.k, .int .i64 m.se, .int .i64 m.nu, .int .i64 m.jo, .int .i64 m.ba, .int .i64 m.ix, .int .i64 m.co, .int .i64 m.rc, .int .u64 (m.rb : Int), .string m.tx, .string m.pr] 67)) wc))
        case first =>
          cases O5
          · go_wp2_with fail
            go_meet
            case rel => exact ⟨by simp, H5.out⟩
          · go_wp2_with fail
            refine (HqR.out _).mono ?_
            rintro e xR ⟨rfl, hb⟩
            have XR := hide (below_in H5.out hb)
            clear hb
            have MM := mg_in XR.out
            have dR0 : xR.cell? ⟨w.heap.size, 0, none⟩ = some (.int .i64 m.k) := MM.all 0 _ rfl
            have dR1 : xR.cell? ⟨w.heap.size, 1, none⟩ = some (.int .i64 m.se) := MM.all 1 _ rfl
            have dR2 : xR.cell? ⟨w.heap.size, 2, none⟩ = some (.int .i64 m.nu) := MM.all 2 _ rfl
            have dR3 : xR.cell? ⟨w.heap.size, 3, none⟩ = some (.int .i64 m.jo) := MM.all 3 _ rfl
            have dR4 : xR.cell? ⟨w.heap.size, 4, none⟩ = some (.int .i64 m.ba) := MM.all 4 _ rfl
            have dR5 : xR.cell? ⟨w.heap.size, 5, none⟩ = some (.int .i64 m.ix) := MM.all 5 _ rfl
            have dR6 : xR.cell? ⟨w.heap.size, 6, none⟩ = some (.int .i64 m.co) := MM.all 6 _ rfl
            have dR7 : xR.cell? ⟨w.heap.size, 7, none⟩ = some (.int .i64 m.rc) := MM.all 7 _ rfl
            have dR8 : xR.cell? ⟨w.heap.size, 8, none⟩ = some (.int .u64 (m.rb : Int)) := MM.all 8 _ rfl
            have dR9 : xR.cell? ⟨w.heap.size, 9, none⟩ = some (.string m.tx) := MM.all 9 _ rfl
            have dR10 : xR.cell? ⟨w.heap.size, 10, none⟩ = some (.string m.pr) := MM.all 10 _ rfl
            clear MM
            cases rR
            · go_wp2_with fail
              go_meet
              case rel => exact ⟨by simp, XR.out⟩
            · go_wp2_with fail
              refine (HqT.out _).mono ?_
              rintro e xT ⟨rfl, hb⟩
              have XT := hide (below_in XR.out hb)
              clear hb
              have MM := mg_in XT.out
              have dT0 : xT.cell? ⟨w.heap.size, 0, none⟩ = some (.int .i64 m.k) := MM.all 0 _ rfl
              have dT1 : xT.cell? ⟨w.heap.size, 1, none⟩ = some (.int .i64 m.se) := MM.all 1 _ rfl
              have dT2 : xT.cell? ⟨w.heap.size, 2, none⟩ = some (.int .i64 m.nu) := MM.all 2 _ rfl
              have dT3 : xT.cell? ⟨w.heap.size, 3, none⟩ = some (.int .i64 m.jo) := MM.all 3 _ rfl
              have dT4 : xT.cell? ⟨w.heap.size, 4, none⟩ = some (.int .i64 m.ba) := MM.all 4 _ rfl
              have dT5 : xT.cell? ⟨w.heap.size, 5, none⟩ = some (.int .i64 m.ix) := MM.all 5 _ rfl
              have dT6 : xT.cell? ⟨w.heap.size, 6, none⟩ = some (.int .i64 m.co) := MM.all 6 _ rfl
              have dT7 : xT.cell? ⟨w.heap.size, 7, none⟩ = some (.int .i64 m.rc) := MM.all 7 _ rfl
              have dT8 : xT.cell? ⟨w.heap.size, 8, none⟩ = some (.int .u64 (m.rb : Int)) := MM.all 8 _ rfl
              have dT9 : xT.cell? ⟨w.heap.size, 9, none⟩ = some (.string m.tx) := MM.all 9 _ rfl
              have dT10 : xT.cell? ⟨w.heap.size, 10, none⟩ = some (.string m.pr) := MM.all 10 _ rfl
              clear MM
              cases rT
              · go_wp2_with fail
                go_meet
                case rel => exact ⟨by simp, XT.out⟩
              · go_wp2_with fail
                refine (HqP.out _).mono ?_
                rintro e xP ⟨rfl, hb⟩
                have XP := hide (below_in XT.out hb)
                clear hb
                have MM := mg_in XP.out
                have dP0 : xP.cell? ⟨w.heap.size, 0, none⟩ = some (.int .i64 m.k) := MM.all 0 _ rfl
                have dP1 : xP.cell? ⟨w.heap.size, 1, none⟩ = some (.int .i64 m.se) := MM.all 1 _ rfl
                have dP2 : xP.cell? ⟨w.heap.size, 2, none⟩ = some (.int .i64 m.nu) := MM.all 2 _ rfl
                have dP3 : xP.cell? ⟨w.heap.size, 3, none⟩ = some (.int .i64 m.jo) := MM.all 3 _ rfl
                have dP4 : xP.cell? ⟨w.heap.size, 4, none⟩ = some (.int .i64 m.ba) := MM.all 4 _ rfl
                have dP5 : xP.cell? ⟨w.heap.size, 5, none⟩ = some (.int .i64 m.ix) := MM.all 5 _ rfl
                have dP6 : xP.cell? ⟨w.heap.size, 6, none⟩ = some (.int .i64 m.co) := MM.all 6 _ rfl
                have dP7 : xP.cell? ⟨w.heap.size, 7, none⟩ = some (.int .i64 m.rc) := MM.all 7 _ rfl
                have dP8 : xP.cell? ⟨w.heap.size, 8, none⟩ = some (.int .u64 (m.rb : Int)) := MM.all 8 _ rfl
                have dP9 : xP.cell? ⟨w.heap.size, 9, none⟩ = some (.string m.tx) := MM.all 9 _ rfl
                have dP10 : xP.cell? ⟨w.heap.size, 10, none⟩ = some (.string m.pr) := MM.all 10 _ rfl
                clear MM
                cases rP
                · go_wp2_with fail
                  go_meet
                  case rel => exact ⟨by simp, XP.out⟩
                · go_wp2_with fail
                  go_meet
                  case rel => exact ⟨rfl, XP.out⟩
        case rest =>
          obtain ⟨rfl, H6⟩ := hcut
          have MM := mg_in H6.out
          have f0 : wc.cell? ⟨w.heap.size, 0, none⟩ = some (.int .i64 m.k) := MM.all 0 _ rfl
          have f1 : wc.cell? ⟨w.heap.size, 1, none⟩ = some (.int .i64 m.se) := MM.all 1 _ rfl
          have f2 : wc.cell? ⟨w.heap.size, 2, none⟩ = some (.int .i64 m.nu) := MM.all 2 _ rfl
          have f3 : wc.cell? ⟨w.heap.size, 3, none⟩ = some (.int .i64 m.jo) := MM.all 3 _ rfl
          have f4 : wc.cell? ⟨w.heap.size, 4, none⟩ = some (.int .i64 m.ba) := MM.all 4 _ rfl
          have f5 : wc.cell? ⟨w.heap.size, 5, none⟩ = some (.int .i64 m.ix) := MM.all 5 _ rfl
          have f6 : wc.cell? ⟨w.heap.size, 6, none⟩ = some (.int .i64 m.co) := MM.all 6 _ rfl
          have f7 : wc.cell? ⟨w.heap.size, 7, none⟩ = some (.int .i64 m.rc) := MM.all 7 _ rfl
          have f8 : wc.cell? ⟨w.heap.size, 8, none⟩ = some (.int .u64 (m.rb : Int)) := MM.all 8 _ rfl
          have f9 : wc.cell? ⟨w.heap.size, 9, none⟩ = some (.string m.tx) := MM.all 9 _ rfl
          have f10 : wc.cell? ⟨w.heap.size, 10, none⟩ = some (.string m.pr) := MM.all 10 _ rfl
          clear MM c0 c1 c2 c3 c4 c5 c6 c7 c8 c9 c10
          generalize hOK : (O5 && rR && rT && rP) = OK at *
          have HOK := hide hOK
          clear hOK
          go_upto_region 7 with fail
          go_cut [100] (fun u100 wc => u100 = .bool BD ∧ Hid (Below (w.heap.size + 1) (w.alloc (.cells #[.int .i64 m.k, .int .i64 m.se, .int .i64 m.nu, .int .i64 m.jo, .int .i64 m.ba, .int .i64 m.ix, .int .i64 m.co, .int .i64 m.rc, .int .u64 (m.rb : Int), .string m.tx, .string m.pr] 67)) wc))
          case first =>
            by_cases z0 : m.rb = 0
            · have HT0 : Hid (((m.rb : Int) != 0) = false) := by rw [z0]; exact rfl
              have hbd : BD = false := by rw [← HBD.out]; simp [z0]
              clear z0
              refine wp_region_held_drew (S := (fun w' => w'.cell? ⟨w.heap.size, 0, none⟩ = some (.int .i64 m.k) ∧ w'.cell? ⟨w.heap.size, 7, none⟩ = some (.int .i64 m.rc) ∧ w'.cell? ⟨w.heap.size, 8, none⟩ = some (.int .u64 (m.rb : Int)))) (by kernel_rfl) ⟨f0, f7, f8⟩ (fun hHeld => ?_)
              refine wpAnyH_take (i := 0) (v := .pointer (some ⟨w.heap.size, 7, none⟩)) rfl (by kernel_rfl) (by kernel_rfl) (by kernel_rfl) (fun _ _ _ h => h) (Or.inl ⟨by kernel_rfl, fun w1 hSw => by obtain ⟨s0, s7, s8⟩ := hSw; clear hHeld; go_simp⟩) hHeld ?_
              simp only [Act.put, List.setIfInBounds_toArray]
              refine wpAnyH_take (i := 1) (v := .pointer (some ⟨w.heap.size, 8, none⟩)) rfl (by kernel_rfl) (by kernel_rfl) (by kernel_rfl) (fun _ _ _ h => h) (Or.inl ⟨by kernel_rfl, fun w1 hSw => by obtain ⟨s0, s7, s8⟩ := hSw; clear hHeld; go_simp⟩) hHeld ?_
              simp only [Act.put]
              try simp only [List.setIfInBounds_toArray]
              try simp only [List.set_cons_succ, List.set_cons_zero]
              refine wpAnyH_take (i := 2) (v := .int .u64 (m.rb : Int)) rfl (by kernel_rfl) (by kernel_rfl) (by kernel_rfl) (fun _ _ _ h => h) (Or.inl ⟨by kernel_rfl, fun w1 hSw => by obtain ⟨s0, s7, s8⟩ := hSw; clear hHeld; go_simp⟩) hHeld ?_
              simp only [Act.put]
              try simp only [List.setIfInBounds_toArray]
              try simp only [List.set_cons_succ, List.set_cons_zero]
              refine wpAnyH_take (i := 3) (v := .bool false) rfl (by kernel_rfl) (by kernel_rfl) (by kernel_rfl) (fun _ _ _ h => h) (Or.inl ⟨by kernel_rfl, fun w1 hSw => by obtain ⟨s0, s7, s8⟩ := hSw; clear hHeld; have t0 := HT0.out; go_simp⟩) hHeld ?_
              simp only [Act.put]
              try simp only [List.setIfInBounds_toArray]
              try simp only [List.set_cons_succ, List.set_cons_zero]
              refine wpAnyH_take (i := 4) (v := .bool false) rfl (by kernel_rfl) (by kernel_rfl) (by kernel_rfl) (fun _ _ _ h => h) (Or.inl ⟨by kernel_rfl, fun w1 hSw => by obtain ⟨s0, s7, s8⟩ := hSw; clear hHeld; go_simp⟩) hHeld ?_
              simp only [Act.put]
              try simp only [List.setIfInBounds_toArray]
              try simp only [List.set_cons_succ, List.set_cons_zero]
              refine wpAnyH_take (i := 5) (v := undef) rfl (by kernel_rfl) (by kernel_rfl) (by kernel_rfl) (fun _ _ _ h => h) (Or.inr ⟨by kernel_rfl, rfl⟩) hHeld ?_
              simp only [Act.put]
              try simp only [List.setIfInBounds_toArray]
              try simp only [List.set_cons_succ, List.set_cons_zero]
              refine wpAnyH_take (i := 6) (v := undef) rfl (by kernel_rfl) (by kernel_rfl) (by kernel_rfl) (fun _ _ _ h => h) (Or.inr ⟨by kernel_rfl, rfl⟩) hHeld ?_
              simp only [Act.put]
              try simp only [List.setIfInBounds_toArray]
              try simp only [List.set_cons_succ, List.set_cons_zero]
              refine wpAnyH_ready (rs := [7]) (by kernel_rfl) (by simp) ?_
              refine AllReadyH.cons rfl (fun K hK => ?_) AllReadyH.nil
              rw [if_neg (by rw [show Region.wanted _ _ = false by kernel_rfl]; decide)]
              refine hK.out (Act.put _ (some 82) undef) _ hHeld (fun hHeld => ?_)
              clear hK
              simp only [Act.put]
              try simp only [List.setIfInBounds_toArray]
              try simp only [List.set_cons_succ, List.set_cons_zero]
              refine wpAnyH_take (i := 8) (v := undef) rfl (by kernel_rfl) (by kernel_rfl) (by kernel_rfl) (fun _ _ _ h => h) (Or.inr ⟨by kernel_rfl, rfl⟩) hHeld ?_
              simp only [Act.put]
              try simp only [List.setIfInBounds_toArray]
              try simp only [List.set_cons_succ, List.set_cons_zero]
              refine wpAnyH_take (i := 9) (v := undef) rfl (by kernel_rfl) (by kernel_rfl) (by kernel_rfl) (fun _ _ _ h => h) (Or.inr ⟨by kernel_rfl, rfl⟩) hHeld ?_
              simp only [Act.put]
              try simp only [List.setIfInBounds_toArray]
              try simp only [List.set_cons_succ, List.set_cons_zero]
              refine wpAnyH_take (i := 10) (v := undef) rfl (by kernel_rfl) (by kernel_rfl) (by kernel_rfl) (fun _ _ _ h => h) (Or.inr ⟨by kernel_rfl, rfl⟩) hHeld ?_
              simp only [Act.put]
              try simp only [List.setIfInBounds_toArray]
              try simp only [List.set_cons_succ, List.set_cons_zero]
              refine wpAnyH_take (i := 11) (v := undef) rfl (by kernel_rfl) (by kernel_rfl) (by kernel_rfl) (fun _ _ _ h => h) (Or.inr ⟨by kernel_rfl, rfl⟩) hHeld ?_
              simp only [Act.put]
              try simp only [List.setIfInBounds_toArray]
              try simp only [List.set_cons_succ, List.set_cons_zero]
              refine wpAnyH_take (i := 12) (v := undef) rfl (by kernel_rfl) (by kernel_rfl) (by kernel_rfl) (fun _ _ _ h => h) (Or.inr ⟨by kernel_rfl, rfl⟩) hHeld ?_
              simp only [Act.put]
              try simp only [List.setIfInBounds_toArray]
              try simp only [List.set_cons_succ, List.set_cons_zero]
              refine wpAnyH_take (i := 13) (v := undef) rfl (by kernel_rfl) (by kernel_rfl) (by kernel_rfl) (fun _ _ _ h => h) (Or.inr ⟨by kernel_rfl, rfl⟩) hHeld ?_
              simp only [Act.put]
              try simp only [List.setIfInBounds_toArray]
              try simp only [List.set_cons_succ, List.set_cons_zero]
              refine wpAnyH_take (i := 14) (v := undef) rfl (by kernel_rfl) (by kernel_rfl) (by kernel_rfl) (fun _ _ _ h => h) (Or.inr ⟨by kernel_rfl, rfl⟩) hHeld ?_
              simp only [Act.put]
              try simp only [List.setIfInBounds_toArray]
              try simp only [List.set_cons_succ, List.set_cons_zero]
              refine wpAnyH_take (i := 15) (v := undef) rfl (by kernel_rfl) (by kernel_rfl) (by kernel_rfl) (fun _ _ _ h => h) (Or.inr ⟨by kernel_rfl, rfl⟩) hHeld ?_
              simp only [Act.put]
              try simp only [List.setIfInBounds_toArray]
              try simp only [List.set_cons_succ, List.set_cons_zero]
              refine wpAnyH_take (i := 16) (v := undef) rfl (by kernel_rfl) (by kernel_rfl) (by kernel_rfl) (fun _ _ _ h => h) (Or.inr ⟨by kernel_rfl, rfl⟩) hHeld ?_
              simp only [Act.put]
              try simp only [List.setIfInBounds_toArray]
              try simp only [List.set_cons_succ, List.set_cons_zero]
              refine wpAnyH_take (i := 17) (v := undef) rfl (by kernel_rfl) (by kernel_rfl) (by kernel_rfl) (fun _ _ _ h => h) (Or.inr ⟨by kernel_rfl, rfl⟩) hHeld ?_
              simp only [Act.put]
              try simp only [List.setIfInBounds_toArray]
              try simp only [List.set_cons_succ, List.set_cons_zero]
              refine wpAnyH_take (i := 18) (v := undef) rfl (by kernel_rfl) (by kernel_rfl) (by kernel_rfl) (fun _ _ _ h => h) (Or.inr ⟨by kernel_rfl, rfl⟩) hHeld ?_
              simp only [Act.put]
              try simp only [List.setIfInBounds_toArray]
              try simp only [List.set_cons_succ, List.set_cons_zero]
              refine wpAnyH_take (i := 20) (v := undef) rfl (by kernel_rfl) (by kernel_rfl) (by kernel_rfl) (fun _ _ _ h => h) (Or.inr ⟨by kernel_rfl, rfl⟩) hHeld ?_
              simp only [Act.put]
              try simp only [List.setIfInBounds_toArray]
              try simp only [List.set_cons_succ, List.set_cons_zero]
              refine wpAnyH_take (i := 21) (v := undef) rfl (by kernel_rfl) (by kernel_rfl) (by kernel_rfl) (fun _ _ _ h => h) (Or.inr ⟨by kernel_rfl, rfl⟩) hHeld ?_
              simp only [Act.put]
              try simp only [List.setIfInBounds_toArray]
              try simp only [List.set_cons_succ, List.set_cons_zero]
              refine wpAnyH_take (i := 22) (v := undef) rfl (by kernel_rfl) (by kernel_rfl) (by kernel_rfl) (fun _ _ _ h => h) (Or.inr ⟨by kernel_rfl, rfl⟩) hHeld ?_
              simp only [Act.put]
              try simp only [List.setIfInBounds_toArray]
              try simp only [List.set_cons_succ, List.set_cons_zero]
              refine wpAnyH_ready (rs := [19]) (by kernel_rfl) (by simp) ?_
              refine AllReadyH.cons rfl (fun K hK => ?_) AllReadyH.nil
              rw [if_neg (by rw [show Region.wanted _ _ = false by kernel_rfl]; decide)]
              refine hK.out (Act.put _ (some 94) undef) _ hHeld (fun hHeld => ?_)
              clear hK
              simp only [Act.put]
              try simp only [List.setIfInBounds_toArray]
              try simp only [List.set_cons_succ, List.set_cons_zero]
              refine wpAnyH_take (i := 23) (v := undef) rfl (by kernel_rfl) (by kernel_rfl) (by kernel_rfl) (fun _ _ _ h => h) (Or.inr ⟨by kernel_rfl, rfl⟩) hHeld ?_
              simp only [Act.put]
              try simp only [List.getElem_toArray]
              try simp only [List.getElem_cons_succ]
              try simp only [List.getElem_cons_zero]
              try simp only [List.setIfInBounds_toArray]
              try simp only [List.set_cons_succ, List.set_cons_zero]
              refine wpAnyH_take (i := 24) (v := undef) rfl (by kernel_rfl) (by kernel_rfl) (by kernel_rfl) (fun _ _ _ h => h) (Or.inr ⟨by kernel_rfl, rfl⟩) hHeld ?_
              simp only [Act.put]
              try simp only [List.getElem_toArray]
              try simp only [List.getElem_cons_succ]
              try simp only [List.getElem_cons_zero]
              try simp only [List.setIfInBounds_toArray]
              try simp only [List.set_cons_succ, List.set_cons_zero]
              refine wpAnyH_take (i := 25) (v := .bool false) rfl (by kernel_rfl) (by kernel_rfl) (by kernel_rfl) (fun _ _ _ h => h) (Or.inl ⟨by kernel_rfl, fun w1 hSw => by obtain ⟨s0, s7, s8⟩ := hSw; clear hHeld; go_simp⟩) hHeld ?_
              simp only [Act.put]
              try simp only [List.getElem_toArray]
              try simp only [List.getElem_cons_succ]
              try simp only [List.getElem_cons_zero]
              try simp only [List.setIfInBounds_toArray]
              try simp only [List.set_cons_succ, List.set_cons_zero]
              refine wpAnyH_done (by kernel_rfl) ?_ _
              go_wp2_with fail
              go_meet
              case rel => exact ⟨by rw [hbd], ⟨H6.out.os, H6.out.tape, H6.out.output, H6.out.size, H6.out.block⟩⟩
            · have HT0 : Hid (((m.rb : Int) != 0) = true) := (show ((m.rb : Int) != 0) = true by simp; omega)
              cases hr
              · have hbd : BD = true := by rw [← HBD.out]; simp [z0]
                clear z0
                refine wp_region_held_drew (S := (fun w' => w'.cell? ⟨w.heap.size, 0, none⟩ = some (.int .i64 m.k) ∧ w'.cell? ⟨w.heap.size, 7, none⟩ = some (.int .i64 m.rc) ∧ w'.cell? ⟨w.heap.size, 8, none⟩ = some (.int .u64 (m.rb : Int)))) (by kernel_rfl) ⟨f0, f7, f8⟩ (fun hHeld => ?_)
                refine wpAnyH_take (i := 0) (v := .pointer (some ⟨w.heap.size, 7, none⟩)) rfl (by kernel_rfl) (by kernel_rfl) (by kernel_rfl) (fun _ _ _ h => h) (Or.inl ⟨by kernel_rfl, fun w1 hSw => by obtain ⟨s0, s7, s8⟩ := hSw; clear hHeld; go_simp⟩) hHeld ?_
                simp only [Act.put, List.setIfInBounds_toArray]
                refine wpAnyH_take (i := 1) (v := .pointer (some ⟨w.heap.size, 8, none⟩)) rfl (by kernel_rfl) (by kernel_rfl) (by kernel_rfl) (fun _ _ _ h => h) (Or.inl ⟨by kernel_rfl, fun w1 hSw => by obtain ⟨s0, s7, s8⟩ := hSw; clear hHeld; go_simp⟩) hHeld ?_
                simp only [Act.put]
                try simp only [List.setIfInBounds_toArray]
                try simp only [List.set_cons_succ, List.set_cons_zero]
                refine wpAnyH_take (i := 2) (v := .int .u64 (m.rb : Int)) rfl (by kernel_rfl) (by kernel_rfl) (by kernel_rfl) (fun _ _ _ h => h) (Or.inl ⟨by kernel_rfl, fun w1 hSw => by obtain ⟨s0, s7, s8⟩ := hSw; clear hHeld; go_simp⟩) hHeld ?_
                simp only [Act.put]
                try simp only [List.setIfInBounds_toArray]
                try simp only [List.set_cons_succ, List.set_cons_zero]
                refine wpAnyH_take (i := 3) (v := .bool true) rfl (by kernel_rfl) (by kernel_rfl) (by kernel_rfl) (fun _ _ _ h => h) (Or.inl ⟨by kernel_rfl, fun w1 hSw => by obtain ⟨s0, s7, s8⟩ := hSw; clear hHeld; have t0 := HT0.out; go_simp⟩) hHeld ?_
                simp only [Act.put]
                try simp only [List.setIfInBounds_toArray]
                try simp only [List.set_cons_succ, List.set_cons_zero]
                refine wpAnyH_take (i := 4) (v := .bool true) rfl (by kernel_rfl) (by kernel_rfl) (by kernel_rfl) (fun _ _ _ h => h) (Or.inl ⟨by kernel_rfl, fun w1 hSw => by obtain ⟨s0, s7, s8⟩ := hSw; clear hHeld; go_simp⟩) hHeld ?_
                simp only [Act.put]
                try simp only [List.setIfInBounds_toArray]
                try simp only [List.set_cons_succ, List.set_cons_zero]
                refine wpAnyH_take (i := 5) (v := .pointer (some ⟨w.heap.size, 0, none⟩)) rfl (by kernel_rfl) (by kernel_rfl) (by kernel_rfl) (fun _ _ _ h => h) (Or.inl ⟨by kernel_rfl, fun w1 hSw => by obtain ⟨s0, s7, s8⟩ := hSw; clear hHeld; go_simp⟩) hHeld ?_
                simp only [Act.put]
                try simp only [List.setIfInBounds_toArray]
                try simp only [List.set_cons_succ, List.set_cons_zero]
                refine wpAnyH_take (i := 6) (v := .int .i64 m.k) rfl (by kernel_rfl) (by kernel_rfl) (by kernel_rfl) (fun _ _ _ h => h) (Or.inl ⟨by kernel_rfl, fun w1 hSw => by obtain ⟨s0, s7, s8⟩ := hSw; clear hHeld; go_simp⟩) hHeld ?_
                simp only [Act.put]
                try simp only [List.setIfInBounds_toArray]
                try simp only [List.set_cons_succ, List.set_cons_zero]
                refine wpAnyH_ready (rs := [7]) (by kernel_rfl) (by simp) ?_
                refine AllReadyH.cons rfl (fun K hK => ?_) AllReadyH.nil
                go_simp
                refine (HHr.out _).mono ?_
                rintro e w7 ⟨rfl, hb7⟩
                have X7 := hide (below_in H6.out (show Below wc.heap.size wc w7 from ⟨hb7.os, hb7.tape, hb7.output, hb7.size, hb7.block⟩))
                have MM := mg_in X7.out
                refine hK.out _ _ ⟨MM.all 0 _ rfl, MM.all 7 _ rfl, MM.all 8 _ rfl⟩ (fun hHeld => ?_)
                clear hK MM hb7
                refine wpAnyH_take (i := 8) (v := .bool true) rfl (by kernel_rfl) (by kernel_rfl) (by kernel_rfl) (fun _ _ _ h => h) (Or.inl ⟨by kernel_rfl, fun w1 hSw => by obtain ⟨s0, s7, s8⟩ := hSw; clear hHeld; go_simp⟩) hHeld ?_
                simp only [Act.put]
                try simp only [List.setIfInBounds_toArray]
                try simp only [List.set_cons_succ, List.set_cons_zero]
                refine wpAnyH_take (i := 9) (v := .bool true) rfl (by kernel_rfl) (by kernel_rfl) (by kernel_rfl) (fun _ _ _ h => h) (Or.inl ⟨by kernel_rfl, fun w1 hSw => by obtain ⟨s0, s7, s8⟩ := hSw; clear hHeld; go_simp⟩) hHeld ?_
                simp only [Act.put]
                try simp only [List.setIfInBounds_toArray]
                try simp only [List.set_cons_succ, List.set_cons_zero]
                refine wpAnyH_take (i := 10) (v := undef) rfl (by kernel_rfl) (by kernel_rfl) (by kernel_rfl) (fun _ _ _ h => h) (Or.inr ⟨by kernel_rfl, rfl⟩) hHeld ?_
                simp only [Act.put]
                try simp only [List.setIfInBounds_toArray]
                try simp only [List.set_cons_succ, List.set_cons_zero]
                refine wpAnyH_take (i := 11) (v := undef) rfl (by kernel_rfl) (by kernel_rfl) (by kernel_rfl) (fun _ _ _ h => h) (Or.inr ⟨by kernel_rfl, rfl⟩) hHeld ?_
                simp only [Act.put]
                try simp only [List.setIfInBounds_toArray]
                try simp only [List.set_cons_succ, List.set_cons_zero]
                refine wpAnyH_take (i := 12) (v := undef) rfl (by kernel_rfl) (by kernel_rfl) (by kernel_rfl) (fun _ _ _ h => h) (Or.inr ⟨by kernel_rfl, rfl⟩) hHeld ?_
                simp only [Act.put]
                try simp only [List.setIfInBounds_toArray]
                try simp only [List.set_cons_succ, List.set_cons_zero]
                refine wpAnyH_take (i := 13) (v := undef) rfl (by kernel_rfl) (by kernel_rfl) (by kernel_rfl) (fun _ _ _ h => h) (Or.inr ⟨by kernel_rfl, rfl⟩) hHeld ?_
                simp only [Act.put]
                try simp only [List.setIfInBounds_toArray]
                try simp only [List.set_cons_succ, List.set_cons_zero]
                refine wpAnyH_take (i := 14) (v := .bool true) rfl (by kernel_rfl) (by kernel_rfl) (by kernel_rfl) (fun _ _ _ h => h) (Or.inl ⟨by kernel_rfl, fun w1 hSw => by obtain ⟨s0, s7, s8⟩ := hSw; clear hHeld; go_simp⟩) hHeld ?_
                simp only [Act.put]
                try simp only [List.setIfInBounds_toArray]
                try simp only [List.set_cons_succ, List.set_cons_zero]
                refine wpAnyH_take (i := 15) (v := .bool true) rfl (by kernel_rfl) (by kernel_rfl) (by kernel_rfl) (fun _ _ _ h => h) (Or.inl ⟨by kernel_rfl, fun w1 hSw => by obtain ⟨s0, s7, s8⟩ := hSw; clear hHeld; go_simp⟩) hHeld ?_
                simp only [Act.put]
                try simp only [List.setIfInBounds_toArray]
                try simp only [List.set_cons_succ, List.set_cons_zero]
                refine wpAnyH_take (i := 16) (v := undef) rfl (by kernel_rfl) (by kernel_rfl) (by kernel_rfl) (fun _ _ _ h => h) (Or.inr ⟨by kernel_rfl, rfl⟩) hHeld ?_
                simp only [Act.put]
                try simp only [List.setIfInBounds_toArray]
                try simp only [List.set_cons_succ, List.set_cons_zero]
                refine wpAnyH_take (i := 17) (v := undef) rfl (by kernel_rfl) (by kernel_rfl) (by kernel_rfl) (fun _ _ _ h => h) (Or.inr ⟨by kernel_rfl, rfl⟩) hHeld ?_
                simp only [Act.put]
                try simp only [List.setIfInBounds_toArray]
                try simp only [List.set_cons_succ, List.set_cons_zero]
                refine wpAnyH_take (i := 18) (v := undef) rfl (by kernel_rfl) (by kernel_rfl) (by kernel_rfl) (fun _ _ _ h => h) (Or.inr ⟨by kernel_rfl, rfl⟩) hHeld ?_
                simp only [Act.put]
                try simp only [List.setIfInBounds_toArray]
                try simp only [List.set_cons_succ, List.set_cons_zero]
                refine wpAnyH_take (i := 20) (v := undef) rfl (by kernel_rfl) (by kernel_rfl) (by kernel_rfl) (fun _ _ _ h => h) (Or.inr ⟨by kernel_rfl, rfl⟩) hHeld ?_
                simp only [Act.put]
                try simp only [List.setIfInBounds_toArray]
                try simp only [List.set_cons_succ, List.set_cons_zero]
                refine wpAnyH_take (i := 21) (v := undef) rfl (by kernel_rfl) (by kernel_rfl) (by kernel_rfl) (fun _ _ _ h => h) (Or.inr ⟨by kernel_rfl, rfl⟩) hHeld ?_
                simp only [Act.put]
                try simp only [List.setIfInBounds_toArray]
                try simp only [List.set_cons_succ, List.set_cons_zero]
                refine wpAnyH_take (i := 22) (v := undef) rfl (by kernel_rfl) (by kernel_rfl) (by kernel_rfl) (fun _ _ _ h => h) (Or.inr ⟨by kernel_rfl, rfl⟩) hHeld ?_
                simp only [Act.put]
                try simp only [List.setIfInBounds_toArray]
                try simp only [List.set_cons_succ, List.set_cons_zero]
                refine wpAnyH_ready (rs := [19]) (by kernel_rfl) (by simp) ?_
                refine AllReadyH.cons rfl (fun K hK => ?_) AllReadyH.nil
                rw [if_neg (by rw [show Region.wanted _ _ = false by kernel_rfl]; decide)]
                refine hK.out (Act.put _ (some 94) undef) _ hHeld (fun hHeld => ?_)
                clear hK
                simp only [Act.put]
                try simp only [List.setIfInBounds_toArray]
                try simp only [List.set_cons_succ, List.set_cons_zero]
                refine wpAnyH_take (i := 23) (v := undef) rfl (by kernel_rfl) (by kernel_rfl) (by kernel_rfl) (fun _ _ _ h => h) (Or.inr ⟨by kernel_rfl, rfl⟩) hHeld ?_
                simp only [Act.put]
                try simp only [List.getElem_toArray]
                try simp only [List.getElem_cons_succ]
                try simp only [List.getElem_cons_zero]
                try simp only [List.setIfInBounds_toArray]
                try simp only [List.set_cons_succ, List.set_cons_zero]
                refine wpAnyH_take (i := 24) (v := .bool true) rfl (by kernel_rfl) (by kernel_rfl) (by kernel_rfl) (fun _ _ _ h => h) (Or.inl ⟨by kernel_rfl, fun w1 hSw => by obtain ⟨s0, s7, s8⟩ := hSw; clear hHeld; go_simp⟩) hHeld ?_
                simp only [Act.put]
                try simp only [List.getElem_toArray]
                try simp only [List.getElem_cons_succ]
                try simp only [List.getElem_cons_zero]
                try simp only [List.setIfInBounds_toArray]
                try simp only [List.set_cons_succ, List.set_cons_zero]
                refine wpAnyH_take (i := 25) (v := .bool true) rfl (by kernel_rfl) (by kernel_rfl) (by kernel_rfl) (fun _ _ _ h => h) (Or.inl ⟨by kernel_rfl, fun w1 hSw => by obtain ⟨s0, s7, s8⟩ := hSw; clear hHeld; go_simp⟩) hHeld ?_
                simp only [Act.put]
                try simp only [List.getElem_toArray]
                try simp only [List.getElem_cons_succ]
                try simp only [List.getElem_cons_zero]
                try simp only [List.setIfInBounds_toArray]
                try simp only [List.set_cons_succ, List.set_cons_zero]
                refine wpAnyH_done (by kernel_rfl) ?_ _
                go_wp2_with fail
                go_meet
                case rel => exact ⟨by rw [hbd], ⟨X7.out.os, X7.out.tape, X7.out.output, X7.out.size, X7.out.block⟩⟩
              · by_cases z1 : m.rc = 0
                · have HT1 : Hid ((m.rc != 0) = false) := by rw [z1]; exact rfl
                  have HT2 : Hid (((Gn.canonW m.rb : Int) != (m.rb : Int)) = BD) := (show ((Gn.canonW m.rb : Int) != (m.rb : Int)) = BD by rw [← HBD.out, Bool.eq_iff_iff]; simp [z0, z1]; omega)
                  clear z0 z1
                  refine wp_region_held_drew (S := (fun w' => w'.cell? ⟨w.heap.size, 0, none⟩ = some (.int .i64 m.k) ∧ w'.cell? ⟨w.heap.size, 7, none⟩ = some (.int .i64 m.rc) ∧ w'.cell? ⟨w.heap.size, 8, none⟩ = some (.int .u64 (m.rb : Int)))) (by kernel_rfl) ⟨f0, f7, f8⟩ (fun hHeld => ?_)
                  refine wpAnyH_take (i := 0) (v := .pointer (some ⟨w.heap.size, 7, none⟩)) rfl (by kernel_rfl) (by kernel_rfl) (by kernel_rfl) (fun _ _ _ h => h) (Or.inl ⟨by kernel_rfl, fun w1 hSw => by obtain ⟨s0, s7, s8⟩ := hSw; clear hHeld; go_simp⟩) hHeld ?_
                  simp only [Act.put, List.setIfInBounds_toArray]
                  refine wpAnyH_take (i := 1) (v := .pointer (some ⟨w.heap.size, 8, none⟩)) rfl (by kernel_rfl) (by kernel_rfl) (by kernel_rfl) (fun _ _ _ h => h) (Or.inl ⟨by kernel_rfl, fun w1 hSw => by obtain ⟨s0, s7, s8⟩ := hSw; clear hHeld; go_simp⟩) hHeld ?_
                  simp only [Act.put]
                  try simp only [List.setIfInBounds_toArray]
                  try simp only [List.set_cons_succ, List.set_cons_zero]
                  refine wpAnyH_take (i := 2) (v := .int .u64 (m.rb : Int)) rfl (by kernel_rfl) (by kernel_rfl) (by kernel_rfl) (fun _ _ _ h => h) (Or.inl ⟨by kernel_rfl, fun w1 hSw => by obtain ⟨s0, s7, s8⟩ := hSw; clear hHeld; go_simp⟩) hHeld ?_
                  simp only [Act.put]
                  try simp only [List.setIfInBounds_toArray]
                  try simp only [List.set_cons_succ, List.set_cons_zero]
                  refine wpAnyH_take (i := 3) (v := .bool true) rfl (by kernel_rfl) (by kernel_rfl) (by kernel_rfl) (fun _ _ _ h => h) (Or.inl ⟨by kernel_rfl, fun w1 hSw => by obtain ⟨s0, s7, s8⟩ := hSw; clear hHeld; have t0 := HT0.out; go_simp⟩) hHeld ?_
                  simp only [Act.put]
                  try simp only [List.setIfInBounds_toArray]
                  try simp only [List.set_cons_succ, List.set_cons_zero]
                  refine wpAnyH_take (i := 4) (v := .bool true) rfl (by kernel_rfl) (by kernel_rfl) (by kernel_rfl) (fun _ _ _ h => h) (Or.inl ⟨by kernel_rfl, fun w1 hSw => by obtain ⟨s0, s7, s8⟩ := hSw; clear hHeld; go_simp⟩) hHeld ?_
                  simp only [Act.put]
                  try simp only [List.setIfInBounds_toArray]
                  try simp only [List.set_cons_succ, List.set_cons_zero]
                  refine wpAnyH_take (i := 5) (v := .pointer (some ⟨w.heap.size, 0, none⟩)) rfl (by kernel_rfl) (by kernel_rfl) (by kernel_rfl) (fun _ _ _ h => h) (Or.inl ⟨by kernel_rfl, fun w1 hSw => by obtain ⟨s0, s7, s8⟩ := hSw; clear hHeld; go_simp⟩) hHeld ?_
                  simp only [Act.put]
                  try simp only [List.setIfInBounds_toArray]
                  try simp only [List.set_cons_succ, List.set_cons_zero]
                  refine wpAnyH_take (i := 6) (v := .int .i64 m.k) rfl (by kernel_rfl) (by kernel_rfl) (by kernel_rfl) (fun _ _ _ h => h) (Or.inl ⟨by kernel_rfl, fun w1 hSw => by obtain ⟨s0, s7, s8⟩ := hSw; clear hHeld; go_simp⟩) hHeld ?_
                  simp only [Act.put]
                  try simp only [List.setIfInBounds_toArray]
                  try simp only [List.set_cons_succ, List.set_cons_zero]
                  refine wpAnyH_ready (rs := [7]) (by kernel_rfl) (by simp) ?_
                  refine AllReadyH.cons rfl (fun K hK => ?_) AllReadyH.nil
                  go_simp
                  refine (HHr.out _).mono ?_
                  rintro e w7 ⟨rfl, hb7⟩
                  have X7 := hide (below_in H6.out (show Below wc.heap.size wc w7 from ⟨hb7.os, hb7.tape, hb7.output, hb7.size, hb7.block⟩))
                  have MM := mg_in X7.out
                  refine hK.out _ _ ⟨MM.all 0 _ rfl, MM.all 7 _ rfl, MM.all 8 _ rfl⟩ (fun hHeld => ?_)
                  clear hK MM hb7
                  refine wpAnyH_take (i := 8) (v := .bool false) rfl (by kernel_rfl) (by kernel_rfl) (by kernel_rfl) (fun _ _ _ h => h) (Or.inl ⟨by kernel_rfl, fun w1 hSw => by obtain ⟨s0, s7, s8⟩ := hSw; clear hHeld; go_simp⟩) hHeld ?_
                  simp only [Act.put]
                  try simp only [List.setIfInBounds_toArray]
                  try simp only [List.set_cons_succ, List.set_cons_zero]
                  refine wpAnyH_take (i := 9) (v := .bool false) rfl (by kernel_rfl) (by kernel_rfl) (by kernel_rfl) (fun _ _ _ h => h) (Or.inl ⟨by kernel_rfl, fun w1 hSw => by obtain ⟨s0, s7, s8⟩ := hSw; clear hHeld; go_simp⟩) hHeld ?_
                  simp only [Act.put]
                  try simp only [List.setIfInBounds_toArray]
                  try simp only [List.set_cons_succ, List.set_cons_zero]
                  refine wpAnyH_take (i := 10) (v := .pointer (some ⟨w.heap.size, 7, none⟩)) rfl (by kernel_rfl) (by kernel_rfl) (by kernel_rfl) (fun _ _ _ h => h) (Or.inl ⟨by kernel_rfl, fun w1 hSw => by obtain ⟨s0, s7, s8⟩ := hSw; clear hHeld; go_simp⟩) hHeld ?_
                  simp only [Act.put]
                  try simp only [List.setIfInBounds_toArray]
                  try simp only [List.set_cons_succ, List.set_cons_zero]
                  refine wpAnyH_take (i := 11) (v := .pointer (some ⟨w.heap.size, 7, none⟩)) rfl (by kernel_rfl) (by kernel_rfl) (by kernel_rfl) (fun _ _ _ h => h) (Or.inl ⟨by kernel_rfl, fun w1 hSw => by obtain ⟨s0, s7, s8⟩ := hSw; clear hHeld; go_simp⟩) hHeld ?_
                  simp only [Act.put]
                  try simp only [List.setIfInBounds_toArray]
                  try simp only [List.set_cons_succ, List.set_cons_zero]
                  refine wpAnyH_take (i := 12) (v := .int .i64 m.rc) rfl (by kernel_rfl) (by kernel_rfl) (by kernel_rfl) (fun _ _ _ h => h) (Or.inl ⟨by kernel_rfl, fun w1 hSw => by obtain ⟨s0, s7, s8⟩ := hSw; clear hHeld; go_simp⟩) hHeld ?_
                  simp only [Act.put]
                  try simp only [List.setIfInBounds_toArray]
                  try simp only [List.set_cons_succ, List.set_cons_zero]
                  refine wpAnyH_take (i := 13) (v := .bool false) rfl (by kernel_rfl) (by kernel_rfl) (by kernel_rfl) (fun _ _ _ h => h) (Or.inl ⟨by kernel_rfl, fun w1 hSw => by obtain ⟨s0, s7, s8⟩ := hSw; clear hHeld; have t1 := HT1.out; go_simp⟩) hHeld ?_
                  simp only [Act.put]
                  try simp only [List.setIfInBounds_toArray]
                  try simp only [List.set_cons_succ, List.set_cons_zero]
                  refine wpAnyH_take (i := 14) (v := .bool false) rfl (by kernel_rfl) (by kernel_rfl) (by kernel_rfl) (fun _ _ _ h => h) (Or.inl ⟨by kernel_rfl, fun w1 hSw => by obtain ⟨s0, s7, s8⟩ := hSw; clear hHeld; go_simp⟩) hHeld ?_
                  simp only [Act.put]
                  try simp only [List.setIfInBounds_toArray]
                  try simp only [List.set_cons_succ, List.set_cons_zero]
                  refine wpAnyH_take (i := 15) (v := .bool false) rfl (by kernel_rfl) (by kernel_rfl) (by kernel_rfl) (fun _ _ _ h => h) (Or.inl ⟨by kernel_rfl, fun w1 hSw => by obtain ⟨s0, s7, s8⟩ := hSw; clear hHeld; go_simp⟩) hHeld ?_
                  simp only [Act.put]
                  try simp only [List.setIfInBounds_toArray]
                  try simp only [List.set_cons_succ, List.set_cons_zero]
                  refine wpAnyH_take (i := 16) (v := .pointer (some ⟨w.heap.size, 7, none⟩)) rfl (by kernel_rfl) (by kernel_rfl) (by kernel_rfl) (fun _ _ _ h => h) (Or.inl ⟨by kernel_rfl, fun w1 hSw => by obtain ⟨s0, s7, s8⟩ := hSw; clear hHeld; go_simp⟩) hHeld ?_
                  simp only [Act.put]
                  try simp only [List.setIfInBounds_toArray]
                  try simp only [List.set_cons_succ, List.set_cons_zero]
                  refine wpAnyH_take (i := 17) (v := .pointer (some ⟨w.heap.size, 8, none⟩)) rfl (by kernel_rfl) (by kernel_rfl) (by kernel_rfl) (fun _ _ _ h => h) (Or.inl ⟨by kernel_rfl, fun w1 hSw => by obtain ⟨s0, s7, s8⟩ := hSw; clear hHeld; go_simp⟩) hHeld ?_
                  simp only [Act.put]
                  try simp only [List.setIfInBounds_toArray]
                  try simp only [List.set_cons_succ, List.set_cons_zero]
                  refine wpAnyH_take (i := 18) (v := .int .u64 (m.rb : Int)) rfl (by kernel_rfl) (by kernel_rfl) (by kernel_rfl) (fun _ _ _ h => h) (Or.inl ⟨by kernel_rfl, fun w1 hSw => by obtain ⟨s0, s7, s8⟩ := hSw; clear hHeld; go_simp⟩) hHeld ?_
                  simp only [Act.put]
                  try simp only [List.setIfInBounds_toArray]
                  try simp only [List.set_cons_succ, List.set_cons_zero]
                  refine wpAnyH_take (i := 20) (v := .pointer (some ⟨w.heap.size, 7, none⟩)) rfl (by kernel_rfl) (by kernel_rfl) (by kernel_rfl) (fun _ _ _ h => h) (Or.inl ⟨by kernel_rfl, fun w1 hSw => by obtain ⟨s0, s7, s8⟩ := hSw; clear hHeld; go_simp⟩) hHeld ?_
                  simp only [Act.put]
                  try simp only [List.setIfInBounds_toArray]
                  try simp only [List.set_cons_succ, List.set_cons_zero]
                  refine wpAnyH_take (i := 21) (v := .pointer (some ⟨w.heap.size, 8, none⟩)) rfl (by kernel_rfl) (by kernel_rfl) (by kernel_rfl) (fun _ _ _ h => h) (Or.inl ⟨by kernel_rfl, fun w1 hSw => by obtain ⟨s0, s7, s8⟩ := hSw; clear hHeld; go_simp⟩) hHeld ?_
                  simp only [Act.put]
                  try simp only [List.setIfInBounds_toArray]
                  try simp only [List.set_cons_succ, List.set_cons_zero]
                  refine wpAnyH_take (i := 22) (v := .int .u64 (m.rb : Int)) rfl (by kernel_rfl) (by kernel_rfl) (by kernel_rfl) (fun _ _ _ h => h) (Or.inl ⟨by kernel_rfl, fun w1 hSw => by obtain ⟨s0, s7, s8⟩ := hSw; clear hHeld; go_simp⟩) hHeld ?_
                  simp only [Act.put]
                  try simp only [List.setIfInBounds_toArray]
                  try simp only [List.set_cons_succ, List.set_cons_zero]
                  refine wpAnyH_ready (rs := [19]) (by kernel_rfl) (by simp) ?_
                  refine AllReadyH.cons rfl (fun K hK => ?_) AllReadyH.nil
                  go_simp
                  refine (HCa.out _).mono ?_
                  rintro e w8 ⟨rfl, rfl⟩
                  refine hK.out _ _ hHeld (fun hHeld => ?_)
                  clear hK
                  refine wpAnyH_take (i := 23) (v := .bool BD) rfl (by kernel_rfl) (by kernel_rfl) (by kernel_rfl) (fun _ _ _ h => h) (Or.inl ⟨by kernel_rfl, fun w1 hSw => by obtain ⟨s0, s7, s8⟩ := hSw; clear hHeld; have t2 := HT2.out; go_simp⟩) hHeld ?_
                  simp only [Act.put]
                  try simp only [List.getElem_toArray]
                  try simp only [List.getElem_cons_succ]
                  try simp only [List.getElem_cons_zero]
                  try simp only [List.setIfInBounds_toArray]
                  try simp only [List.set_cons_succ, List.set_cons_zero]
                  refine wpAnyH_take (i := 24) (v := .bool BD) rfl (by kernel_rfl) (by kernel_rfl) (by kernel_rfl) (fun _ _ _ h => h) (Or.inl ⟨by kernel_rfl, fun w1 hSw => by obtain ⟨s0, s7, s8⟩ := hSw; clear hHeld; go_simp⟩) hHeld ?_
                  simp only [Act.put]
                  try simp only [List.getElem_toArray]
                  try simp only [List.getElem_cons_succ]
                  try simp only [List.getElem_cons_zero]
                  try simp only [List.setIfInBounds_toArray]
                  try simp only [List.set_cons_succ, List.set_cons_zero]
                  refine wpAnyH_take (i := 25) (v := .bool BD) rfl (by kernel_rfl) (by kernel_rfl) (by kernel_rfl) (fun _ _ _ h => h) (Or.inl ⟨by kernel_rfl, fun w1 hSw => by obtain ⟨s0, s7, s8⟩ := hSw; clear hHeld; go_simp⟩) hHeld ?_
                  simp only [Act.put]
                  try simp only [List.getElem_toArray]
                  try simp only [List.getElem_cons_succ]
                  try simp only [List.getElem_cons_zero]
                  try simp only [List.setIfInBounds_toArray]
                  try simp only [List.set_cons_succ, List.set_cons_zero]
                  refine wpAnyH_done (by kernel_rfl) ?_ _
                  go_wp2_with fail
                  go_meet
                  case rel => exact ⟨rfl, ⟨X7.out.os, X7.out.tape, X7.out.output, X7.out.size, X7.out.block⟩⟩
                · have HT1 : Hid ((m.rc != 0) = true) := (show (m.rc != 0) = true by simp [z1])
                  have hbd : BD = true := by rw [← HBD.out]; simp [z0, z1]
                  clear z0 z1
                  refine wp_region_held_drew (S := (fun w' => w'.cell? ⟨w.heap.size, 0, none⟩ = some (.int .i64 m.k) ∧ w'.cell? ⟨w.heap.size, 7, none⟩ = some (.int .i64 m.rc) ∧ w'.cell? ⟨w.heap.size, 8, none⟩ = some (.int .u64 (m.rb : Int)))) (by kernel_rfl) ⟨f0, f7, f8⟩ (fun hHeld => ?_)
                  refine wpAnyH_take (i := 0) (v := .pointer (some ⟨w.heap.size, 7, none⟩)) rfl (by kernel_rfl) (by kernel_rfl) (by kernel_rfl) (fun _ _ _ h => h) (Or.inl ⟨by kernel_rfl, fun w1 hSw => by obtain ⟨s0, s7, s8⟩ := hSw; clear hHeld; go_simp⟩) hHeld ?_
                  simp only [Act.put, List.setIfInBounds_toArray]
                  refine wpAnyH_take (i := 1) (v := .pointer (some ⟨w.heap.size, 8, none⟩)) rfl (by kernel_rfl) (by kernel_rfl) (by kernel_rfl) (fun _ _ _ h => h) (Or.inl ⟨by kernel_rfl, fun w1 hSw => by obtain ⟨s0, s7, s8⟩ := hSw; clear hHeld; go_simp⟩) hHeld ?_
                  simp only [Act.put]
                  try simp only [List.setIfInBounds_toArray]
                  try simp only [List.set_cons_succ, List.set_cons_zero]
                  refine wpAnyH_take (i := 2) (v := .int .u64 (m.rb : Int)) rfl (by kernel_rfl) (by kernel_rfl) (by kernel_rfl) (fun _ _ _ h => h) (Or.inl ⟨by kernel_rfl, fun w1 hSw => by obtain ⟨s0, s7, s8⟩ := hSw; clear hHeld; go_simp⟩) hHeld ?_
                  simp only [Act.put]
                  try simp only [List.setIfInBounds_toArray]
                  try simp only [List.set_cons_succ, List.set_cons_zero]
                  refine wpAnyH_take (i := 3) (v := .bool true) rfl (by kernel_rfl) (by kernel_rfl) (by kernel_rfl) (fun _ _ _ h => h) (Or.inl ⟨by kernel_rfl, fun w1 hSw => by obtain ⟨s0, s7, s8⟩ := hSw; clear hHeld; have t0 := HT0.out; go_simp⟩) hHeld ?_
                  simp only [Act.put]
                  try simp only [List.setIfInBounds_toArray]
                  try simp only [List.set_cons_succ, List.set_cons_zero]
                  refine wpAnyH_take (i := 4) (v := .bool true) rfl (by kernel_rfl) (by kernel_rfl) (by kernel_rfl) (fun _ _ _ h => h) (Or.inl ⟨by kernel_rfl, fun w1 hSw => by obtain ⟨s0, s7, s8⟩ := hSw; clear hHeld; go_simp⟩) hHeld ?_
                  simp only [Act.put]
                  try simp only [List.setIfInBounds_toArray]
                  try simp only [List.set_cons_succ, List.set_cons_zero]
                  refine wpAnyH_take (i := 5) (v := .pointer (some ⟨w.heap.size, 0, none⟩)) rfl (by kernel_rfl) (by kernel_rfl) (by kernel_rfl) (fun _ _ _ h => h) (Or.inl ⟨by kernel_rfl, fun w1 hSw => by obtain ⟨s0, s7, s8⟩ := hSw; clear hHeld; go_simp⟩) hHeld ?_
                  simp only [Act.put]
                  try simp only [List.setIfInBounds_toArray]
                  try simp only [List.set_cons_succ, List.set_cons_zero]
                  refine wpAnyH_take (i := 6) (v := .int .i64 m.k) rfl (by kernel_rfl) (by kernel_rfl) (by kernel_rfl) (fun _ _ _ h => h) (Or.inl ⟨by kernel_rfl, fun w1 hSw => by obtain ⟨s0, s7, s8⟩ := hSw; clear hHeld; go_simp⟩) hHeld ?_
                  simp only [Act.put]
                  try simp only [List.setIfInBounds_toArray]
                  try simp only [List.set_cons_succ, List.set_cons_zero]
                  refine wpAnyH_ready (rs := [7]) (by kernel_rfl) (by simp) ?_
                  refine AllReadyH.cons rfl (fun K hK => ?_) AllReadyH.nil
                  go_simp
                  refine (HHr.out _).mono ?_
                  rintro e w7 ⟨rfl, hb7⟩
                  have X7 := hide (below_in H6.out (show Below wc.heap.size wc w7 from ⟨hb7.os, hb7.tape, hb7.output, hb7.size, hb7.block⟩))
                  have MM := mg_in X7.out
                  refine hK.out _ _ ⟨MM.all 0 _ rfl, MM.all 7 _ rfl, MM.all 8 _ rfl⟩ (fun hHeld => ?_)
                  clear hK MM hb7
                  refine wpAnyH_take (i := 8) (v := .bool false) rfl (by kernel_rfl) (by kernel_rfl) (by kernel_rfl) (fun _ _ _ h => h) (Or.inl ⟨by kernel_rfl, fun w1 hSw => by obtain ⟨s0, s7, s8⟩ := hSw; clear hHeld; go_simp⟩) hHeld ?_
                  simp only [Act.put]
                  try simp only [List.setIfInBounds_toArray]
                  try simp only [List.set_cons_succ, List.set_cons_zero]
                  refine wpAnyH_take (i := 9) (v := .bool false) rfl (by kernel_rfl) (by kernel_rfl) (by kernel_rfl) (fun _ _ _ h => h) (Or.inl ⟨by kernel_rfl, fun w1 hSw => by obtain ⟨s0, s7, s8⟩ := hSw; clear hHeld; go_simp⟩) hHeld ?_
                  simp only [Act.put]
                  try simp only [List.setIfInBounds_toArray]
                  try simp only [List.set_cons_succ, List.set_cons_zero]
                  refine wpAnyH_take (i := 10) (v := .pointer (some ⟨w.heap.size, 7, none⟩)) rfl (by kernel_rfl) (by kernel_rfl) (by kernel_rfl) (fun _ _ _ h => h) (Or.inl ⟨by kernel_rfl, fun w1 hSw => by obtain ⟨s0, s7, s8⟩ := hSw; clear hHeld; go_simp⟩) hHeld ?_
                  simp only [Act.put]
                  try simp only [List.setIfInBounds_toArray]
                  try simp only [List.set_cons_succ, List.set_cons_zero]
                  refine wpAnyH_take (i := 11) (v := .pointer (some ⟨w.heap.size, 7, none⟩)) rfl (by kernel_rfl) (by kernel_rfl) (by kernel_rfl) (fun _ _ _ h => h) (Or.inl ⟨by kernel_rfl, fun w1 hSw => by obtain ⟨s0, s7, s8⟩ := hSw; clear hHeld; go_simp⟩) hHeld ?_
                  simp only [Act.put]
                  try simp only [List.setIfInBounds_toArray]
                  try simp only [List.set_cons_succ, List.set_cons_zero]
                  refine wpAnyH_take (i := 12) (v := .int .i64 m.rc) rfl (by kernel_rfl) (by kernel_rfl) (by kernel_rfl) (fun _ _ _ h => h) (Or.inl ⟨by kernel_rfl, fun w1 hSw => by obtain ⟨s0, s7, s8⟩ := hSw; clear hHeld; go_simp⟩) hHeld ?_
                  simp only [Act.put]
                  try simp only [List.setIfInBounds_toArray]
                  try simp only [List.set_cons_succ, List.set_cons_zero]
                  refine wpAnyH_take (i := 13) (v := .bool true) rfl (by kernel_rfl) (by kernel_rfl) (by kernel_rfl) (fun _ _ _ h => h) (Or.inl ⟨by kernel_rfl, fun w1 hSw => by obtain ⟨s0, s7, s8⟩ := hSw; clear hHeld; have t1 := HT1.out; go_simp⟩) hHeld ?_
                  simp only [Act.put]
                  try simp only [List.setIfInBounds_toArray]
                  try simp only [List.set_cons_succ, List.set_cons_zero]
                  refine wpAnyH_take (i := 14) (v := .bool true) rfl (by kernel_rfl) (by kernel_rfl) (by kernel_rfl) (fun _ _ _ h => h) (Or.inl ⟨by kernel_rfl, fun w1 hSw => by obtain ⟨s0, s7, s8⟩ := hSw; clear hHeld; go_simp⟩) hHeld ?_
                  simp only [Act.put]
                  try simp only [List.setIfInBounds_toArray]
                  try simp only [List.set_cons_succ, List.set_cons_zero]
                  refine wpAnyH_take (i := 15) (v := .bool true) rfl (by kernel_rfl) (by kernel_rfl) (by kernel_rfl) (fun _ _ _ h => h) (Or.inl ⟨by kernel_rfl, fun w1 hSw => by obtain ⟨s0, s7, s8⟩ := hSw; clear hHeld; go_simp⟩) hHeld ?_
                  simp only [Act.put]
                  try simp only [List.setIfInBounds_toArray]
                  try simp only [List.set_cons_succ, List.set_cons_zero]
                  refine wpAnyH_take (i := 16) (v := undef) rfl (by kernel_rfl) (by kernel_rfl) (by kernel_rfl) (fun _ _ _ h => h) (Or.inr ⟨by kernel_rfl, rfl⟩) hHeld ?_
                  simp only [Act.put]
                  try simp only [List.setIfInBounds_toArray]
                  try simp only [List.set_cons_succ, List.set_cons_zero]
                  refine wpAnyH_take (i := 17) (v := undef) rfl (by kernel_rfl) (by kernel_rfl) (by kernel_rfl) (fun _ _ _ h => h) (Or.inr ⟨by kernel_rfl, rfl⟩) hHeld ?_
                  simp only [Act.put]
                  try simp only [List.setIfInBounds_toArray]
                  try simp only [List.set_cons_succ, List.set_cons_zero]
                  refine wpAnyH_take (i := 18) (v := undef) rfl (by kernel_rfl) (by kernel_rfl) (by kernel_rfl) (fun _ _ _ h => h) (Or.inr ⟨by kernel_rfl, rfl⟩) hHeld ?_
                  simp only [Act.put]
                  try simp only [List.setIfInBounds_toArray]
                  try simp only [List.set_cons_succ, List.set_cons_zero]
                  refine wpAnyH_take (i := 20) (v := undef) rfl (by kernel_rfl) (by kernel_rfl) (by kernel_rfl) (fun _ _ _ h => h) (Or.inr ⟨by kernel_rfl, rfl⟩) hHeld ?_
                  simp only [Act.put]
                  try simp only [List.setIfInBounds_toArray]
                  try simp only [List.set_cons_succ, List.set_cons_zero]
                  refine wpAnyH_take (i := 21) (v := undef) rfl (by kernel_rfl) (by kernel_rfl) (by kernel_rfl) (fun _ _ _ h => h) (Or.inr ⟨by kernel_rfl, rfl⟩) hHeld ?_
                  simp only [Act.put]
                  try simp only [List.setIfInBounds_toArray]
                  try simp only [List.set_cons_succ, List.set_cons_zero]
                  refine wpAnyH_take (i := 22) (v := undef) rfl (by kernel_rfl) (by kernel_rfl) (by kernel_rfl) (fun _ _ _ h => h) (Or.inr ⟨by kernel_rfl, rfl⟩) hHeld ?_
                  simp only [Act.put]
                  try simp only [List.setIfInBounds_toArray]
                  try simp only [List.set_cons_succ, List.set_cons_zero]
                  refine wpAnyH_ready (rs := [19]) (by kernel_rfl) (by simp) ?_
                  refine AllReadyH.cons rfl (fun K hK => ?_) AllReadyH.nil
                  rw [if_neg (by rw [show Region.wanted _ _ = false by kernel_rfl]; decide)]
                  refine hK.out (Act.put _ (some 94) undef) _ hHeld (fun hHeld => ?_)
                  clear hK
                  simp only [Act.put]
                  try simp only [List.setIfInBounds_toArray]
                  try simp only [List.set_cons_succ, List.set_cons_zero]
                  refine wpAnyH_take (i := 23) (v := undef) rfl (by kernel_rfl) (by kernel_rfl) (by kernel_rfl) (fun _ _ _ h => h) (Or.inr ⟨by kernel_rfl, rfl⟩) hHeld ?_
                  simp only [Act.put]
                  try simp only [List.getElem_toArray]
                  try simp only [List.getElem_cons_succ]
                  try simp only [List.getElem_cons_zero]
                  try simp only [List.setIfInBounds_toArray]
                  try simp only [List.set_cons_succ, List.set_cons_zero]
                  refine wpAnyH_take (i := 24) (v := .bool true) rfl (by kernel_rfl) (by kernel_rfl) (by kernel_rfl) (fun _ _ _ h => h) (Or.inl ⟨by kernel_rfl, fun w1 hSw => by obtain ⟨s0, s7, s8⟩ := hSw; clear hHeld; go_simp⟩) hHeld ?_
                  simp only [Act.put]
                  try simp only [List.getElem_toArray]
                  try simp only [List.getElem_cons_succ]
                  try simp only [List.getElem_cons_zero]
                  try simp only [List.setIfInBounds_toArray]
                  try simp only [List.set_cons_succ, List.set_cons_zero]
                  refine wpAnyH_take (i := 25) (v := .bool true) rfl (by kernel_rfl) (by kernel_rfl) (by kernel_rfl) (fun _ _ _ h => h) (Or.inl ⟨by kernel_rfl, fun w1 hSw => by obtain ⟨s0, s7, s8⟩ := hSw; clear hHeld; go_simp⟩) hHeld ?_
                  simp only [Act.put]
                  try simp only [List.getElem_toArray]
                  try simp only [List.getElem_cons_succ]
                  try simp only [List.getElem_cons_zero]
                  try simp only [List.setIfInBounds_toArray]
                  try simp only [List.set_cons_succ, List.set_cons_zero]
                  refine wpAnyH_done (by kernel_rfl) ?_ _
                  go_wp2_with fail
                  go_meet
                  case rel => exact ⟨by rw [hbd], ⟨X7.out.os, X7.out.tape, X7.out.output, X7.out.size, X7.out.block⟩⟩
          case rest =>
            obtain ⟨rfl, H7⟩ := hcut
            have MM := mg_in H7.out
            have g0 : wc.cell? ⟨w.heap.size, 0, none⟩ = some (.int .i64 m.k) := MM.all 0 _ rfl
            have g5 : wc.cell? ⟨w.heap.size, 5, none⟩ = some (.int .i64 m.ix) := MM.all 5 _ rfl
            have g9 : wc.cell? ⟨w.heap.size, 9, none⟩ = some (.string m.tx) := MM.all 9 _ rfl
            clear MM f0 f1 f2 f3 f4 f5 f6 f7 f8 f9 f10
            have hput : ((m.k == 6) = false ∧ putB m = false) ∨ ((m.k == 6) = true ∧ (m.ix == 0) = false ∧ putB m = false) ∨ ((m.k == 6) = true ∧ (m.ix == 0) = true ∧ m.tx.toList.isEmpty = true ∧ putB m = false) ∨ ((m.k == 6) = true ∧ (m.ix == 0) = true ∧ m.tx.toList.isEmpty = false ∧ putB m = true) := by
              unfold putB
              by_cases k6 : m.k = 6
              · by_cases i0 : m.ix = 0
                · by_cases t0 : m.tx.size = 0
                  · exact .inr (.inr (.inl ⟨beq_iff_eq.mpr k6, beq_iff_eq.mpr i0, by rw [tx_empty]; exact decide_eq_true t0, by simp [t0]⟩))
                  · exact .inr (.inr (.inr ⟨beq_iff_eq.mpr k6, beq_iff_eq.mpr i0, by rw [tx_empty]; exact decide_eq_false t0, by rw [decide_eq_true k6, decide_eq_true i0, decide_eq_true (show m.tx.size ≠ 0 from t0)]; rfl⟩))
                · exact .inr (.inl ⟨beq_iff_eq.mpr k6, beq_false_of_ne i0, by rw [decide_eq_false i0]; simp⟩)
              · exact .inl ⟨beq_false_of_ne k6, by rw [decide_eq_false k6]; simp⟩
            have HE2 : Hid ((if (OK && !BD && !putB m) = true then (0 : Nat) else 71) = E) := HE.out
            generalize putB m = PB at *
            clear HE HO4 HO5 HOK HBD
            cases BD
            · rcases hput with ⟨u1, hpb⟩ | ⟨u1, u2, hpb⟩ | ⟨u1, u2, u3, hpb⟩ | ⟨u1, u2, u3, hpb⟩
              all_goals
                cases OK
                all_goals
                  rw [hpb] at HE2
                  clear hpb
                  go_wp2
                  go_ret
                  exact ⟨by rw [← HE2.out]; rfl, b_out H7.out⟩
            · rcases hput with ⟨u1, hpb⟩ | ⟨u1, u2, hpb⟩ | ⟨u1, u2, u3, hpb⟩ | ⟨u1, u2, u3, hpb⟩
              all_goals
                cases OK
                all_goals
                  rw [hpb] at HE2
                  clear hpb
                  go_wp2
                  go_ret
                  exact ⟨by rw [← HE2.out]; rfl, b_out H7.out⟩
end Go.Proofs.YtkfnedhllfdghaaGreatDoor.W
end
