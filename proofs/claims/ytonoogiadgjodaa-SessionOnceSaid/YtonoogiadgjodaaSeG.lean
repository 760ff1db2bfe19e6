import Derived.Test.YtonoogiadgjodaaSeF
import Derived.Laws.OwnMore
import Derived.Laws.MakeOwn
import Derived.Laws.ResultCell
namespace Go.Proofs.Ytonoogiadgjodaa
open Go.RowKit

/-- a row of a table -/
@[ext] structure Dk where
  sl : Int
  li : Int
  se : Int
  la : Int
  rp : ByteArray
  deriving DecidableEq
def Dk.cs (d : Dk) : List Value := [.int .i64 d.sl, .int .i64 d.li, .int .i64 d.se, .int .i64 d.la, .string d.rp]
def Dk.val (d : Dk) : Value := .agg #[.int .i64 d.sl, .int .i64 d.li, .int .i64 d.se, .int .i64 d.la, .string d.rp]
def dk0 : Dk := ⟨0, 0, 0, 0, e0⟩
def dks : List Dk → List Value
  | [] => []
  | d :: l => d.cs ++ dks l
theorem dks_len (l : List Dk) : (dks l).length = l.length * 5 := by
  induction l with
  | nil => rfl
  | cons d l ih => simp only [dks, List.length_append, ih, List.length_cons, Nat.add_mul]; simp [Dk.cs]; omega
theorem dks_append (l m : List Dk) : dks (l ++ m) = dks l ++ dks m := by
  induction l with
  | nil => rfl
  | cons d l ih => simp only [List.cons_append, dks, ih, List.append_assoc]
theorem dks_get (l : List Dk) (i k : Nat) (hi : i < l.length) (hk : k < 5) : (dks l)[i * 5 + k]? = (l[i]).cs[k]? := by
  induction l generalizing i with
  | nil => cases hi
  | cons d l ih =>
    cases i with
    | zero => simp only [dks]; rw [Nat.zero_mul, Nat.zero_add, List.getElem?_append_left (by show k < 5; exact hk)]; rfl
    | succ i =>
      simp only [dks]
      rw [List.getElem?_append_right (by show 5 ≤ _; omega), show (i + 1) * 5 + k - (Dk.cs d).length = i * 5 + k by show _ - 5 = _; omega]
      exact ih i (by simpa using hi)
theorem dks_one_cell (l : List Dk) : ∀ u ∈ dks l, u.oneCell' = true := by
  induction l with
  | nil => intro u hu; simp [dks] at hu
  | cons d l ih =>
    intro u hu
    simp only [dks, List.mem_append] at hu
    rcases hu with hu | hu
    · simp [Dk.cs] at hu
      rcases hu with rfl | rfl | rfl | rfl | rfl <;> rfl
    · exact ih u hu
theorem dks_put (l : List Dk) (i : Nat) (d : Dk) (hi : i < l.length) : (((((dks l).set (i * 5) (.int .i64 d.sl)).set (i * 5 + 1) (.int .i64 d.li)).set (i * 5 + 2) (.int .i64 d.se)).set (i * 5 + 3) (.int .i64 d.la)).set (i * 5 + 4) (.string d.rp) = dks (l.set i d) := by
  induction l generalizing i with
  | nil => cases hi
  | cons x l ih =>
    cases i with
    | zero => simp [dks, Dk.cs]
    | succ i =>
      have := ih i (by simpa using hi)
      simp only [List.set_cons_succ, dks]
      rw [← this]
      simp only [Dk.cs, show (i + 1) * 5 = i * 5 + 5 by omega, List.cons_append, List.nil_append]
      rw [show i * 5 + 5 + 1 = i * 5 + 1 + 5 by omega, show i * 5 + 5 + 2 = i * 5 + 2 + 5 by omega, show i * 5 + 5 + 3 = i * 5 + 3 + 5 by omega, show i * 5 + 5 + 4 = i * 5 + 4 + 5 by omega]
      rfl
/-- a table's blocks, of whatever type -/
structure Tm (T B : Nat) (w : World) (b g cap : Nat) (D : List Dk) : Prop where
  hb : w.heap[b]? = some (.cells #[.slice (some ⟨g, 0, none⟩) D.length cap] T (0, 0))
  row : w.ownsRow B 96 5 (.slice (some ⟨g, 0, none⟩) D.length cap) D.length (dks D)
  low : B ≤ b
  n8 : D.length ≤ 8
section
variable {T B : Nat} {w w' : World} {b g cap : Nat} {D : List Dk}
theorem Tm.lt (h : Tm T B w b g cap D) : b < w.heap.size := lt_of_block h.hb
theorem Tm.gl (h : Tm T B w b g cap D) : g < w.heap.size := (h.row.lt g rfl).2
theorem Tm.gB (h : Tm T B w b g cap D) : B ≤ g := (h.row.lt g rfl).1
theorem Tm.c (h : Tm T B w b g cap D) : w.cell? ⟨b, 0, none⟩ = some (.slice (some ⟨g, 0, none⟩) D.length cap) := by have := h.hb; simp [World.cell?, this]
theorem Tm.z (h : Tm T B w b g cap D) (j : Nat) : w.frozen? ⟨g, j, none⟩ = false := h.row.frozenAt j
theorem Tm.f (h : Tm T B w b g cap D) {i : Nat} {d : Dk} (hi : D[i]? = some d) : w.cell? ⟨g, i * 5, none⟩ = some (.int .i64 d.sl) ∧ w.cell? ⟨g, i * 5 + 1, none⟩ = some (.int .i64 d.li) ∧ w.cell? ⟨g, i * 5 + 2, none⟩ = some (.int .i64 d.se) ∧ w.cell? ⟨g, i * 5 + 3, none⟩ = some (.int .i64 d.la) ∧ w.cell? ⟨g, i * 5 + 4, none⟩ = some (.string d.rp) := by
  obtain ⟨hl, rfl⟩ := List.getElem?_eq_some_iff.1 hi
  have hc : ∀ k, k < 5 → w.cell? ⟨g, i * 5 + k, none⟩ = (D[i]).cs[k]? := fun k hk => (h.row.cellAt _ (by omega)).trans (dks_get D i k hl hk)
  exact ⟨hc 0 (by decide), hc 1 (by decide), hc 2 (by decide), hc 3 (by decide), hc 4 (by decide)⟩
theorem own_keep {e : TypeId} {size n : Nat} {v : Value} {xs : List Value} (h : w.ownsRow B e size v n xs) (hk : ∀ k, v.ownBlock = some k → w'.heap[k]? = w.heap[k]?) : w'.ownsRow B e size v n xs := by
  refine ⟨h.1, ?_⟩
  rcases h.2 with h1 | ⟨g, cap, cur, rfl, hg, hb, h2⟩
  · exact .inl h1
  · exact .inr ⟨g, cap, cur, rfl, hg, (hk g rfl).trans hb, h2⟩
theorem own_blk {n size : Nat} {e : TypeId} {v : Value} {xs : List Value} (h : w.ownsRow B e size v n xs) {k : Nat} (hk : v.ownBlock = some k) : ∃ cs, w.heap[k]? = some (.cells cs e (0, 0)) := by
  rcases h.2 with ⟨rfl, _⟩ | ⟨g, cap, cur, rfl, _, hg, _⟩
  · cases hk
  · injection hk with hk; subst hk; exact ⟨cur, hg⟩
theorem blk_ne {a b : Nat} {cs ds : Array Value} {s t : TypeId} (h : w.heap[a]? = some (.cells cs s (0, 0))) (k : w.heap[b]? = some (.cells ds t (0, 0))) (hn : s ≠ t) : a ≠ b := by
  rintro rfl
  rw [h] at k; injection k with k; injection k with _ k; exact hn k
theorem Tm.keep (h : Tm T B w b g cap D) (hb : w'.heap[b]? = w.heap[b]?) (hg : w'.heap[g]? = w.heap[g]?) : Tm T B w' b g cap D :=
  ⟨hb.trans h.hb, own_keep h.row fun k hk => by injection hk with hk; subst hk; exact hg, h.low, h.n8⟩
theorem Tm.below (h : Tm T B w b g cap D) (hb : Below w.heap.size w w') : Tm T B w' b g cap D := h.keep (hb.block _ h.lt) (hb.block _ h.gl)
theorem Tm.alloc (h : Tm T B w b g cap D) (o : Obj) : Tm T B (w.alloc o) b g cap D := h.below (below_alloc w o)
theorem Tm.drewN (h : Tm T B w b g cap D) (n : Nat) : Tm T B (w.drewN n) b g cap D := h.keep rfl rfl
theorem Tm.drew (h : Tm T B w b g cap D) : Tm T B w.drew b g cap D := h.keep rfl rfl
theorem Tm.ne (h : Tm T B w b g cap D) (hT : 96 ≠ T) : g ≠ b := by
  obtain ⟨cs, hc⟩ := own_blk h.row (k := g) rfl
  exact blk_ne hc h.hb hT
theorem Tm.wide {B' : Nat} (h : Tm T B w b g cap D) (hB : B' ≤ B) : Tm T B' w b g cap D :=
  ⟨h.hb, by
    refine ⟨h.row.1, ?_⟩
    rcases h.row.2 with h1 | ⟨g, cap, cur, e, hg, h2⟩
    · exact .inl h1
    · exact .inr ⟨g, cap, cur, e, Nat.le_trans hB hg, h2⟩, Nat.le_trans hB h.low, h.n8⟩
/-- a row laid into a block -/
def putD (w : World) (g o : Nat) (d : Dk) : World := ((((w.setCell ⟨g, o, none⟩ (.int .i64 d.sl)).setCell ⟨g, o + 1, none⟩ (.int .i64 d.li)).setCell ⟨g, o + 2, none⟩ (.int .i64 d.se)).setCell ⟨g, o + 3, none⟩ (.int .i64 d.la)).setCell ⟨g, o + 4, none⟩ (.string d.rp)
theorem On.putD {u : World} (h : On g u w) (o : Nat) (d : Dk) : On g u (putD w g o d) := ((((h.set _ _).set _ _).set _ _).set _ _).set _ _
theorem Tm.put (h : Tm T B w b g cap D) (hT : 96 ≠ T) {i : Nat} (hi : i < D.length) (d : Dk) : Tm T B (putD w g (i * 5) d) b g cap (D.set i d) := by
  have hne := h.ne hT
  have ho := (On.refl g w).putD (i * 5) d
  have h1 := (h.row.stored (i * 5) (.int .i64 d.sl)).1
  have h2 := (h1.stored (i * 5 + 1) (.int .i64 d.li)).1
  have h3 := (h2.stored (i * 5 + 2) (.int .i64 d.se)).1
  have h4 := (h3.stored (i * 5 + 3) (.int .i64 d.la)).1
  have h5 := (h4.stored (i * 5 + 4) (.string d.rp)).1
  rw [dks_put D i d hi] at h5
  exact ⟨by rw [List.length_set]; exact (ho.block b h.lt (Ne.symm hne)).trans h.hb, by rw [List.length_set]; exact h5, h.low, by rw [List.length_set]; exact h.n8⟩
end
/-- the row of a slot, if there is such a slot -/
def atD (D : List Dk) (s : Int) : Option Dk := if 0 ≤ s then D[s.toNat]? else none
theorem atD_some {D : List Dk} {s : Int} {d : Dk} (h : atD D s = some d) : ∃ i : Nat, s = (i : Int) ∧ i < D.length ∧ D[i]? = some d := by
  unfold atD at h
  split at h
  · exact ⟨s.toNat, by omega, (List.getElem?_eq_some_iff.1 h).1, h⟩
  · cases h
theorem atD_none {D : List Dk} {s : Int} (h : atD D s = none) : s < 0 ∨ (D.length : Int) ≤ s := by
  unfold atD at h
  split at h
  · have := List.getElem?_eq_none_iff.1 h
    omega
  · omega
/-- what may be -/
def DOk (D : List Dk) : Prop := ∀ (i : Nat) (d : Dk), D[i]? = some d → 0 ≤ d.li ∧ d.li ≤ 1099511627776 ∧ 0 ≤ d.se ∧ d.se ≤ 1099511627776 ∧ 0 ≤ d.la ∧ d.la ≤ 1099511627776
theorem DOk.set {D : List Dk} (h : DOk D) (i : Nat) {d : Dk} (hd : 0 ≤ d.li ∧ d.li ≤ 1099511627776 ∧ 0 ≤ d.se ∧ d.se ≤ 1099511627776 ∧ 0 ≤ d.la ∧ d.la ≤ 1099511627776) : DOk (D.set i d) := by
  intro j x hx
  by_cases hj : i = j
  · subst hj
    by_cases hl : i < D.length
    · rw [List.getElem?_set_self hl] at hx; injection hx with hx; subst hx; exact hd
    · rw [List.getElem?_eq_none (by rw [List.length_set]; omega)] at hx; cases hx
  · rw [List.getElem?_set_ne hj] at hx; exact h j x hx
def cnt (n : Int) : Prop := 1 ≤ n ∧ n ≤ 1099511627776
instance (n : Int) : Decidable (cnt n) := by unfold cnt; infer_instance
structure TR where
  e : Int
  D : List Dk
def tHello (D : List Dk) (s life : Int) : Int × Int := match atD D s with | none => (0, 0) | some d => if ¬ cnt life then (0, 0) else if life < d.li then (0, 0) else if d.li = life then (1, d.se) else (2, 0)
def tOpen (D : List Dk) (s life se : Int) : TR := match atD D s with | none => ⟨130, D⟩ | some d => if ¬ cnt life then ⟨132, D⟩ else if ¬ cnt se then ⟨132, D⟩ else if life < d.li then ⟨132, D⟩ else ⟨0, D.set s.toNat ⟨s, life, se, 0, e0⟩⟩
def tAsk (D : List Dk) (s life se n : Int) : Int × ByteArray := match atD D s with | none => (1, e0) | some d => if d.li = 0 then (1, e0) else if d.li ≠ life then (1, e0) else if d.se ≠ se then (1, e0) else if n = d.la then (if n ≠ 0 then (2, d.rp) else (0, e0)) else if n = d.la + 1 then (3, e0) else (0, e0)
def tAnswer (D : List Dk) (s : Int) (rp : ByteArray) : TR := match atD D s with | none => ⟨130, D⟩ | some d => if d.li = 0 then ⟨132, D⟩ else if d.la = 1099511627776 then ⟨132, D⟩ else ⟨0, D.set s.toNat { d with la := d.la + 1, rp := rp }⟩
def newD (n : Nat) : List Dk := List.replicate n dk0
set_option maxHeartbeats 1000000 in
theorem counts_any (w : World) (n : Int) : Calls Try.prog 56 #[.int .i64 n] w fun e w' => e = .returned (.bool (decide (cnt n))) ∧ w' = w := by
  by_cases h1 : 1 ≤ n
  · by_cases h2 : n ≤ 1099511627776
    · rw [decide_eq_true (show cnt n from ⟨h1, h2⟩)]
      have t1 : decide (1 ≤ n) = true := decide_eq_true h1
      have t2 : decide (n ≤ 1099511627776) = true := decide_eq_true h2
      clear h1 h2
      go_enter Try.func56, Try.ntmps56
      go_wp2
      go_ret
      exact ⟨rfl, rfl⟩
    · rw [decide_eq_false (show ¬ cnt n from fun x => h2 x.2)]
      have t1 : decide (1 ≤ n) = true := decide_eq_true h1
      have t2 : decide (n ≤ 1099511627776) = false := decide_eq_false h2
      clear h1 h2
      go_enter Try.func56, Try.ntmps56
      go_wp2
      go_ret
      exact ⟨rfl, rfl⟩
  · rw [decide_eq_false (show ¬ cnt n from fun x => h1 x.1)]
    have t1 : decide (1 ≤ n) = false := decide_eq_false h1
    clear h1
    go_enter Try.func56, Try.ntmps56
    go_wp2
    go_ret
    exact ⟨rfl, rfl⟩

section
variable {B : Nat} {w : World} {b g cap : Nat} {D : List Dk}
set_option maxHeartbeats 1000000 in
theorem has_any (h : Tm 92 B w b g cap D) (s : Int) : Calls Try.prog 55 #[.pointer (some ⟨b, 0, none⟩), .int .i64 s] w fun e w' => e = .returned (.bool (atD D s).isSome) ∧ w' = w := by
  have c0 := h.c
  have n8 := h.n8
  clear h
  cases ha : atD D s with
  | none =>
    rcases atD_none ha with hs | hs
    · have t1 : decide (0 ≤ s) = false := decide_eq_false (by omega)
      clear hs ha
      go_enter Try.func55, Try.ntmps55
      go_wp2
      go_ret
      exact ⟨rfl, rfl⟩
    · have t1 : decide (0 ≤ s) = true := decide_eq_true (by omega)
      have t2 : decide (s < (D.length : Int)) = false := decide_eq_false (by omega)
      clear hs ha
      go_enter Try.func55, Try.ntmps55
      go_wp2
      go_ret
      exact ⟨rfl, rfl⟩
  | some d =>
    obtain ⟨i, rfl, hi, _⟩ := atD_some ha
    have t1 : decide ((0 : Int) ≤ (i : Int)) = true := decide_eq_true (by omega)
    have t2 : decide ((i : Int) < (D.length : Int)) = true := decide_eq_true (by omega)
    have t3 : decide (i < D.length) = true := decide_eq_true hi
    clear hi ha
    go_enter Try.func55, Try.ntmps55
    go_wp2
    go_ret
    exact ⟨rfl, rfl⟩
end
end Go.Proofs.Ytonoogiadgjodaa
