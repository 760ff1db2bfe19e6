import Derived.Test.YtbbgkajmacknkaaGreatMgAN
import Derived.Test.YtbbgkajmacknkaaGreatMgAJ
import Derived.Deep.DeepCutAuto

section
namespace Go.Proofs.YtbbgkajmacknkaaGreat
set_option maxRecDepth 20000
open Go.RowKit Go.Shelf
open Wr (Ms V L)

/-- the document's letters -/
def lowB (l : L) : UInt8 := UInt8.ofNat ((chr l).toNat + 32)
def nstr (k : Int) : ByteArray := if k < 1 ∨ 16 < k then ⟨#[63]⟩ else ⟨((Wr.letters k).map lowB).toArray⟩
def namesR : Array Value := #[.string ⟨#[63]⟩, .string ⟨#[]⟩, .string ⟨#[115, 110]⟩, .string ⟨#[115, 110, 98]⟩, .string ⟨#[115, 110, 98, 99, 114]⟩, .string ⟨#[98, 105, 116]⟩, .string ⟨#[106, 98, 105, 116]⟩, .string ⟨#[115]⟩, .string ⟨#[115, 110]⟩, .string ⟨#[115, 110, 106, 98, 112]⟩, .string ⟨#[115, 110]⟩, .string ⟨#[115, 110]⟩, .string ⟨#[115, 110]⟩, .string ⟨#[115, 110]⟩, .string ⟨#[98, 99]⟩, .string ⟨#[106, 98, 99]⟩, .string ⟨#[106, 98]⟩]
theorem namesR_at (k : Int) (h0 : 0 ≤ k) (h1 : k ≤ 16) : namesR[k.toNat]? = some (.string (nstr k)) := by
  have : k = 0 ∨ k = 1 ∨ k = 2 ∨ k = 3 ∨ k = 4 ∨ k = 5 ∨ k = 6 ∨ k = 7 ∨ k = 8 ∨ k = 9 ∨ k = 10 ∨ k = 11 ∨ k = 12 ∨ k = 13 ∨ k = 14 ∨ k = 15 ∨ k = 16 := by omega
  rcases this with rfl | rfl | rfl | rfl | rfl | rfl | rfl | rfl | rfl | rfl | rfl | rfl | rfl | rfl | rfl | rfl | rfl <;> rfl
theorem namesR_cell (k : Int) (h0 : 0 ≤ k) (h1 : k ≤ 16) (w : World) : (w.alloc (.cells namesR 9)).cell? ⟨w.heap.size, k.toNat, none⟩ = some (.string (nstr k)) := by
  have h := heap_alloc_new w (.cells namesR 9)
  unfold World.cell?
  rw [h]
  exact namesR_at k h0 h1
set_option maxRecDepth 8000 in
set_option maxHeartbeats 1000000 in
theorem rnamed_any (k : Int) (w : World) : Calls Tryz.prog 20 #[.int .i64 k] w fun e w' => e = .returned (.string (nstr k)) ∧ Below w.heap.size w w' := by
  by_cases h0 : k < 0
  · have b1 : decide (k < 0) = true := decide_eq_true h0
    have hn : nstr k = ⟨#[63]⟩ := if_pos (by omega)
    rw [hn]
    go_enter Tryz.func20, Tryz.ntmps20
    go_wp2
    go_ret
    exact ⟨rfl, below_alloc _ _⟩
  · have b1 : decide (k < 0) = false := decide_eq_false h0
    by_cases h1 : k ≥ 17
    · have b2 : decide (k ≥ 17) = true := decide_eq_true h1
      have hn : nstr k = ⟨#[63]⟩ := if_pos (by omega)
      rw [hn]
      go_enter Tryz.func20, Tryz.ntmps20
      go_wp2
      go_ret
      exact ⟨rfl, below_alloc _ _⟩
    · have b2 : decide (k ≥ 17) = false := decide_eq_false h1
      have hc := namesR_cell k (by omega) (by omega) w
      generalize nstr k = S at *
      obtain ⟨kn, rfl⟩ : ∃ kn : Nat, k = (kn : Int) := ⟨k.toNat, by omega⟩
      rw [Int.toNat_natCast] at hc
      unfold namesR at hc
      go_enter Tryz.func20, Tryz.ntmps20
      go_wp2
      go_ret
      exact ⟨rfl, below_alloc _ _⟩
theorem nstr_size (k : Int) : (nstr k).size ≤ 5 := by
  unfold nstr
  split
  · decide
  · have := letters_five k
    show (List.toArray _).size ≤ 5
    simpa using this
/-- is a letter there? -/
def hasB (s : ByteArray) (c : UInt8) : Bool := s.data.toList.contains c
theorem has_at {s : ByteArray} {i : Nat} (hi : i < s.size) (c : UInt8) : (s.data.toList.drop i).contains c = ((s[i]'hi == c) || (s.data.toList.drop (i + 1)).contains c) := by
  have h : i < s.data.toList.length := hi
  rw [List.drop_eq_getElem_cons h, List.contains_cons]
  rw [show s.data.toList[i] = s[i]'hi from rfl, Bool.beq_comm]
set_option maxRecDepth 8000 in
set_option maxHeartbeats 1000000 in
theorem rhas_any (k : Int) (c : UInt8) (w : World) : Calls Tryz.prog 36 #[.int .i64 k, .int .u8 (c.toNat : Int)] w fun e w' => e = .returned (.bool (hasB (nstr k) c)) ∧ Below w.heap.size w w' := by
  have HN := hide (rnamed_any k)
  have hs5 := nstr_size k
  generalize nstr k = s at *
  go_enter Tryz.func36, Tryz.ntmps36
  go_wp2_with fail
  refine (HN.out _).mono ?_
  rintro e w1 ⟨rfl, hb1⟩
  have HB := hide hb1
  clear hb1
  go_wp2
  go_loopw [6] (fun u wr => ∃ i : Nat, u = .int .i64 (i : Int) ∧ i ≤ s.size ∧ wr = w1 ∧ Hid (hasB s c = (s.data.toList.drop i).contains c)) (fun u _ => s.size - (intOf u).toNat)
  case atStart => exact ⟨0, rfl, Nat.zero_le _, rfl, rfl⟩
  case round =>
    obtain ⟨i, rfl, hi, rfl, HH⟩ := hrel
    by_cases hil : i < s.size
    · have d0 : decide ((i : Int) < (s.size : Int)) = true := by simp; omega
      have HX := hide (HH.out.trans (has_at hil c))
      have hix : ((i : Int)).toNat = i := rfl
      by_cases hx : s[i]'hil = c
      · have b1 : (((s[i]'hil).toNat : Int) == (c.toNat : Int)) = true := by rw [hx]; simp
        go_wp2
        go_ret
        exact ⟨by rw [HX.out, hx]; simp, HB.out⟩
      · have b1 : (((s[i]'hil).toNat : Int) == (c.toNat : Int)) = false := by apply beq_false_of_ne; intro e; exact hx (UInt8.toNat_inj.mp (by omega))
        go_wp2
        exact ⟨⟨i + 1, by go_num, by omega, (by first | rfl | trivial), by have := HX.out; rw [beq_false_of_ne hx, Bool.false_or] at this; exact this⟩, by simp [intOf]; omega⟩
    · have d0 : decide ((i : Int) < (s.size : Int)) = false := by simp; omega
      obtain rfl : i = s.size := by omega
      have hfin : hasB s c = false := by
        have := HH.out
        rw [Wr.size_list, List.drop_length] at this
        exact this
      go_wp2
      go_ret
      exact ⟨by rw [hfin]; rfl, HB.out⟩
theorem hasB_l (k : Int) (l : L) (h1 : 1 ≤ k) (h2 : k ≤ 16) : hasB (nstr k) (lowB l) = decide (l ∈ Wr.letters k) := by
  have : k = 1 ∨ k = 2 ∨ k = 3 ∨ k = 4 ∨ k = 5 ∨ k = 6 ∨ k = 7 ∨ k = 8 ∨ k = 9 ∨ k = 10 ∨ k = 11 ∨ k = 12 ∨ k = 13 ∨ k = 14 ∨ k = 15 ∨ k = 16 := by omega
  rcases this with rfl | rfl | rfl | rfl | rfl | rfl | rfl | rfl | rfl | rfl | rfl | rfl | rfl | rfl | rfl | rfl <;> cases l <;> rfl
def ixD (k : Int) : Int := if k = 5 then 31 else if k = 6 then 16 else 0
def ctD (k : Int) : Int := if k = 5 then 0 else if k = 6 then 0 else if k = 4 then 32 else if k = 14 then 32 else 17
set_option maxHeartbeats 1000000 in
theorem rmost_any (k : Int) (w : World) : Calls Tryz.prog 34 #[.int .i64 k] w fun e w' => e = .returned (.tuple #[.int .i64 (ixD k), .int .i64 (ctD k)]) ∧ w' = w := by
  have hs : k = 5 ∨ k = 6 ∨ k = 4 ∨ k = 14 ∨ (k ≠ 5 ∧ k ≠ 6 ∧ k ≠ 4 ∧ k ≠ 14) := by omega
  rcases hs with rfl | rfl | rfl | rfl | ⟨h5, h6, h4, h14⟩
  · go_enter Tryz.func34, Tryz.ntmps34
    go_wp2
    go_ret2
    exact ⟨rfl, rfl⟩
  · go_enter Tryz.func34, Tryz.ntmps34
    go_wp2
    go_ret2
    exact ⟨rfl, rfl⟩
  · go_enter Tryz.func34, Tryz.ntmps34
    go_wp2
    go_ret2
    exact ⟨rfl, rfl⟩
  · go_enter Tryz.func34, Tryz.ntmps34
    go_wp2
    go_ret2
    exact ⟨rfl, rfl⟩
  · have e1 : ixD k = 0 := by unfold ixD; rw [if_neg h5, if_neg h6]
    have e2 : ctD k = 17 := by unfold ctD; rw [if_neg h5, if_neg h6, if_neg h4, if_neg h14]
    rw [e1, e2]
    have b5 : (k == 5) = false := beq_false_of_ne h5
    have b6 : (k == 6) = false := beq_false_of_ne h6
    have b4 : (k == 4) = false := beq_false_of_ne h4
    have b14 : (k == 14) = false := beq_false_of_ne h14
    go_enter Tryz.func34, Tryz.ntmps34
    go_wp2
    go_ret2
    exact ⟨rfl, rfl⟩
def rgt (k : Int) (c : UInt8) (n lo hi : Int) : Bool := if hasB (nstr k) c then decide (lo ≤ n ∧ n ≤ hi) else decide (n = 0)
set_option maxHeartbeats 1000000 in
theorem rright_any (m : Ms) (c : UInt8) (n lo hi : Int) (w : World) : Calls Tryz.prog 35 #[.agg (msgC m), .int .u8 (c.toNat : Int), .int .i64 n, .int .i64 lo, .int .i64 hi] w fun e w' => e = .returned (.bool (rgt m.k c n lo hi)) ∧ Below w.heap.size w w' := by
  have HH := hide (rhas_any m.k c)
  unfold rgt msgC
  generalize hasB (nstr m.k) c = B at *
  cases B
  · have hr : (n == 0) = decide (n = 0) := rfl
    rw [if_neg (by decide)]
    go_enter Tryz.func35, Tryz.ntmps35
    go_wp2_with fail
    refine (HH.out _).mono ?_
    rintro e w1 ⟨rfl, hb1⟩
    have HB := hide ((below_alloc w _).trans (hb1.mono (by simp)))
    clear hb1
    go_wp2
    go_ret
    exact ⟨rfl, HB.out⟩
  · rw [if_pos rfl]
    by_cases h1 : lo ≤ n
    · have b1 : decide (n ≥ lo) = true := decide_eq_true h1
      rw [show decide (lo ≤ n ∧ n ≤ hi) = decide (n ≤ hi) by simp [h1]]
      go_enter Tryz.func35, Tryz.ntmps35
      go_wp2_with fail
      refine (HH.out _).mono ?_
      rintro e w1 ⟨rfl, hb1⟩
      have HB := hide ((below_alloc w _).trans (hb1.mono (by simp)))
      clear hb1
      go_wp2
      go_ret
      exact ⟨rfl, HB.out⟩
    · have b1 : decide (n ≥ lo) = false := decide_eq_false h1
      rw [show decide (lo ≤ n ∧ n ≤ hi) = false from decide_eq_false (by omega)]
      go_enter Tryz.func35, Tryz.ntmps35
      go_wp2_with fail
      refine (HH.out _).mono ?_
      rintro e w1 ⟨rfl, hb1⟩
      have HB := hide ((below_alloc w _).trans (hb1.mono (by simp)))
      clear hb1
      go_wp2
      go_ret
      exact ⟨rfl, HB.out⟩
end Go.Proofs.YtbbgkajmacknkaaGreat
end
