import Derived.Test.YtepondcflkledaaGreatMgAL
import Derived.Test.YtepondcflkledaaGreatMgAK

section
namespace Go.Proofs.YtepondcflkledaaGreat.Q
set_option maxRecDepth 20000
open Go.RowKit

/-- rows may be -/
structure ROk (m : Int) (L : List Rr) : Prop where
  len : L.length ≤ 8
  form : ∀ i (h : i < L.length), L[i] = fm ((i : Int) + 1) L[i]
  st : ∀ i (h : i < L.length), sMay m L[i]
  bd : ∀ i (h : i < L.length), bMay L[i]
  uni : ∀ i j (hi : i < L.length) (hj : j < L.length), 0 < (L[i]).bdg → (L[i]).bdg = (L[j]).bdg → i = j
/-- a queue may be -/
structure Ok (m : Int) (L : List Rr) : Prop extends ROk m L where
  m1 : 1 ≤ m
  m8 : m ≤ 8
theorem fm_job {k : Int} {r : Rr} (h : r = fm k r) : r.job = k := by
  have := congrArg Rr.job h
  rw [this]; unfold fm; split; rfl; split <;> rfl
theorem ROk.job {m : Int} {L : List Rr} (h : ROk m L) (i : Nat) (hi : i < L.length) : (L[i]).job = (i : Int) + 1 := fm_job (h.form i hi)
theorem shF_true (r : Rr) (l : List Rr) : l.foldl (shF r) true = true := by
  induction l with
  | nil => rfl
  | cons o l ih => rw [List.foldl_cons, show shF r true o = true from rfl]; exact ih
theorem shF_iff (r : Rr) (l : List Rr) : l.foldl (shF r) false = false ↔ ∀ o ∈ l, o = r ∨ o.bdg ≠ r.bdg := by
  induction l with
  | nil => simp
  | cons o l ih =>
    rw [List.foldl_cons]
    by_cases h : o = r ∨ o.bdg ≠ r.bdg
    · have : shF r false o = false := by
        unfold shF
        rcases h with h | h <;> simp [h]
      rw [this, ih]
      simp [h]
    · have h1 : o ≠ r ∧ o.bdg = r.bdg := by
        constructor
        · exact fun e => h (.inl e)
        · exact Classical.byContradiction fun e => h (.inr e)
      have : shF r false o = true := by unfold shF; simp [h1.1, h1.2]
      rw [this, shF_true]
      constructor
      · intro h2; cases h2
      · intro h2; exact absurd (h2 o (by simp)) h
theorem shr_iff (L : List Rr) (r : Rr) : shr L r = false ↔ (0 < r.bdg → ∀ o ∈ L, o = r ∨ o.bdg ≠ r.bdg) := by
  unfold shr
  by_cases h : 0 < r.bdg
  · rw [decide_eq_true h, Bool.true_and, shF_iff]
    exact ⟨fun h2 _ => h2, fun h2 => h2 h⟩
  · rw [decide_eq_false h, Bool.false_and]
    exact ⟨fun _ h2 => absurd h2 h, fun _ => rfl⟩
/-- all are counted -/
theorem gd_iff (m : Int) (L : List Rr) : ∀ (l : List Rr) (g : Int), l.foldl (gdF m L) g ≤ g + l.length ∧ (l.foldl (gdF m L) g = g + l.length ↔ ∀ i (h : i < l.length), gdP m L (g + i) l[i]) := by
  intro l
  induction l with
  | nil => intro g; simp
  | cons r l ih =>
    intro g
    rw [List.foldl_cons]
    by_cases h : gdP m L g r
    · have e : gdF m L g r = g + 1 := if_pos h
      obtain ⟨h1, h2⟩ := ih (g + 1)
      rw [e]
      refine ⟨by show _ ≤ g + ((l.length + 1 : Nat) : Int); omega, ?_⟩
      show _ = g + ((l.length + 1 : Nat) : Int) ↔ _
      rw [show g + ((l.length + 1 : Nat) : Int) = g + 1 + l.length by omega, h2]
      constructor
      · intro h3 i hi
        cases i with
        | zero => simpa using h
        | succ i =>
          have := h3 i (by simpa using hi)
          rw [show g + ((i + 1 : Nat) : Int) = g + 1 + i by omega]
          simpa using this
      · intro h3 i hi
        have := h3 (i + 1) (by simpa using hi)
        rw [show g + ((i + 1 : Nat) : Int) = g + 1 + i by omega] at this
        simpa using this
    · have e : gdF m L g r = g := if_neg h
      obtain ⟨h1, h2⟩ := ih g
      rw [e]
      refine ⟨by show _ ≤ g + ((l.length + 1 : Nat) : Int); omega, ?_⟩
      show _ = g + ((l.length + 1 : Nat) : Int) ↔ _
      constructor
      · intro h3; omega
      · intro h3
        have := h3 0 (by simp)
        simp at this
        exact absurd this h
theorem rok_iff (m : Int) (L : List Rr) (hl : L.length ≤ 8) : L.foldl (gdF m L) 0 = (L.length : Int) ↔ ROk m L := by
  have h := (gd_iff m L L 0).2
  rw [Int.zero_add] at h
  rw [h]
  constructor
  · intro h1
    have h2 : ∀ i (h : i < L.length), gdP m L (i : Int) L[i] := fun i hi => by have := h1 i hi; rwa [Int.zero_add] at this
    refine ⟨hl, fun i hi => (h2 i hi).1, fun i hi => (h2 i hi).2.1, fun i hi => (h2 i hi).2.2.1, fun i j hi hj hp he => ?_⟩
    have h3 := (shr_iff L L[i]).1 (h2 i hi).2.2.2 hp L[j] (List.getElem_mem hj)
    rcases h3 with h3 | h3
    · have e1 := fm_job (h2 i hi).1
      have e2 := fm_job (h2 j hj).1
      rw [h3, e1] at e2
      omega
    · exact absurd he.symm h3
  · intro h1 i hi
    rw [Int.zero_add]
    refine ⟨h1.form i hi, h1.st i hi, h1.bd i hi, (shr_iff L L[i]).2 fun hp o ho => ?_⟩
    obtain ⟨j, hj, rfl⟩ := List.getElem_of_mem ho
    by_cases he : (L[j]).bdg = (L[i]).bdg
    · left
      have := h1.uni i j hi hj hp he.symm
      subst this
      rfl
    · exact .inr he
theorem ROk.nil (m : Int) : ROk m [] := ⟨by decide, fun i h => absurd h (by simp), fun i h => absurd h (by simp), fun i h => absurd h (by simp), fun i j h => absurd h (by simp)⟩

/-- of a row that may be, its numbers -/
theorem Ok.att {m : Int} {L : List Rr} (h : Ok m L) (i : Nat) (hi : i < L.length) : 0 ≤ (L[i]).att ∧ (L[i]).att ≤ m := by
  have h1 := h.m1
  rcases h.st i hi with ⟨_, a, b⟩ | ⟨_, a, b, _⟩ | ⟨_, a, b, _⟩ | ⟨_, a⟩ <;> omega
theorem Ok.bdg {m : Int} {L : List Rr} (h : Ok m L) (i : Nat) (hi : i < L.length) : 0 ≤ (L[i]).bdg ∧ (L[i]).bdg ≤ 1099511627776 := by
  rcases h.bd i hi with ⟨_, a⟩ | ⟨_, a, b⟩ <;> omega
theorem fm_same {r : Rr} {k : Int} (h : r = fm k r) : (r.st ≠ 2 → r.node = 0 ∧ r.life = 0) ∧ (r.st ≠ 3 → r.code = 0 ∧ r.bits = 0) := by
  constructor
  · intro h2
    unfold fm at h
    rw [if_neg h2] at h
    split at h <;> (rw [h]; exact ⟨rfl, rfl⟩)
  · intro h3
    unfold fm at h
    split at h
    · rw [h]; exact ⟨rfl, rfl⟩
    · rw [h]
      exact ⟨rfl, rfl⟩

/-- where the row that a badge holds is -/
def hix (b : Int) : List Rr → Option Nat
  | [] => none
  | r :: l => if r.st = 2 ∧ r.bdg = b then some 0 else (hix b l).map (· + 1)
theorem hix_some {b : Int} : ∀ {l : List Rr} {i : Nat}, hix b l = some i → ∃ h : i < l.length, (l[i]).st = 2 ∧ (l[i]).bdg = b
  | [], i, h => by cases h
  | r :: l, i, h => by
    unfold hix at h
    split at h
    · rename_i h1; injection h with h; subst h; exact ⟨by simp, h1⟩
    · cases hq : hix b l with
      | none => rw [hq] at h; cases h
      | some k =>
        rw [hq] at h
        injection h with h
        subst h
        obtain ⟨h1, h2⟩ := hix_some hq
        exact ⟨by simpa using h1, by simpa using h2⟩
theorem hix_none {b : Int} : ∀ {l : List Rr}, hix b l = none → ∀ i (h : i < l.length), ¬ ((l[i]).st = 2 ∧ (l[i]).bdg = b)
  | [], _, i, hi => absurd hi (by simp)
  | r :: l, h, i, hi => by
    unfold hix at h
    split at h
    · cases h
    · rename_i h1
      have h2 : hix b l = none := by cases hq : hix b l with
        | none => rfl
        | some k => rw [hq] at h; cases h
      cases i with
      | zero => simpa using h1
      | succ i => simpa using hix_none h2 i (by simpa using hi)
/-- what Find finds -/
def fnd (b : Int) (L : List Rr) : Rr := L.foldl (fnF b) rr0
theorem fnF_or (b : Int) (l : List Rr) : ∀ (a : Rr), (l.foldl (fnF b) a = a ∧ ∀ i (h : i < l.length), ¬ (0 < (l[i]).att ∧ (l[i]).bdg = b)) ∨ ∃ i, ∃ h : i < l.length, l.foldl (fnF b) a = l[i] ∧ 0 < (l[i]).att ∧ (l[i]).bdg = b := by
  induction l with
  | nil => intro a; exact .inl ⟨rfl, fun i h => absurd h (by simp)⟩
  | cons r l ih =>
    intro a
    rw [List.foldl_cons]
    rcases ih (fnF b a r) with ⟨h1, h2⟩ | ⟨i, hi, h1, h2⟩
    · by_cases h : 0 < r.att ∧ r.bdg = b
      · right
        refine ⟨0, by simp, ?_, by simpa using h⟩
        rw [h1]; show fnF b a r = r
        exact if_pos h
      · left
        refine ⟨by rw [h1]; exact if_neg h, fun i hi => ?_⟩
        cases i with
        | zero => simpa using h
        | succ i => simpa using h2 i (by simpa using hi)
    · right
      exact ⟨i + 1, by simpa using hi, by simpa using h1, by simpa using h2⟩
theorem fnd_or (b : Int) (L : List Rr) : (fnd b L = rr0 ∧ ∀ i (h : i < L.length), ¬ (0 < (L[i]).att ∧ (L[i]).bdg = b)) ∨ ∃ i, ∃ h : i < L.length, fnd b L = L[i] ∧ 0 < (L[i]).att ∧ (L[i]).bdg = b := fnF_or b L rr0
theorem held_pos {m : Int} {L : List Rr} (h : ROk m L) (i : Nat) (hi : i < L.length) (h2 : (L[i]).st = 2) : 1 ≤ (L[i]).att ∧ 1 ≤ (L[i]).bdg := by
  have ha : 1 ≤ (L[i]).att := by
    rcases h.st i hi with ⟨a, _⟩ | ⟨_, a, _⟩ | ⟨a, _⟩ | ⟨a, _⟩
    · rw [a] at h2; cases h2
    · exact a
    · rw [a] at h2; cases h2
    · rw [a] at h2; cases h2
  refine ⟨ha, ?_⟩
  rcases h.bd i hi with ⟨a, _⟩ | ⟨_, a, _⟩
  · omega
  · exact a
/-- held, told by Find -/
theorem hld_some {m : Int} {L : List Rr} (h : ROk m L) {b : Int} {i : Nat} (hx : hix b L = some i) : ∃ hi : i < L.length, fnd b L = L[i] ∧ (L[i]).st = 2 ∧ (L[i]).bdg = b := by
  obtain ⟨hi, h2, hb⟩ := hix_some hx
  obtain ⟨ha, hb1⟩ := held_pos h i hi h2
  refine ⟨hi, ?_, h2, hb⟩
  rcases fnd_or b L with ⟨_, h3⟩ | ⟨j, hj, h3, h4, h5⟩
  · exact absurd ⟨by omega, hb⟩ (h3 i hi)
  · have := h.uni i j hi hj (by omega) (by rw [hb, h5])
    subst this
    exact h3
theorem hld_none {m : Int} {L : List Rr} (_ : ROk m L) {b : Int} (hx : hix b L = none) : (fnd b L).st ≠ 2 := by
  rcases fnd_or b L with ⟨h3, _⟩ | ⟨j, hj, h3, h4, h5⟩
  · rw [h3]; decide
  · rw [h3]
    intro h2
    exact hix_none hx j hj ⟨h2, h5⟩
/-- the head -/
def hd (L : List Rr) : Int := L.foldl hdF 0
theorem hdF_keep {h : Int} (l : List Rr) (h0 : h ≠ 0) : l.foldl hdF h = h := by
  induction l with
  | nil => rfl
  | cons r l ih => rw [List.foldl_cons, show hdF h r = h from if_neg fun x => h0 x.1]; exact ih
end Go.Proofs.YtepondcflkledaaGreat.Q
end

section
namespace Go.Proofs.YtepondcflkledaaGreat.Q
set_option maxRecDepth 20000
open Go.RowKit

abbrev sval (s : Int × Int) : Value := .agg #[.int .i64 s.1, .int .i64 s.2]
abbrev set2 (w : World) (X : Nat) (s : Int × Int) : World := (w.setCell ⟨X, 0, none⟩ (.int .i64 s.1)).setCell ⟨X, 1, none⟩ (.int .i64 s.2)
theorem set2_other (w : World) (X : Nat) (s : Int × Int) (k : Nat) (hk : k ≠ X) : (set2 w X s).heap[k]? = w.heap[k]? :=
  (Below.heap_setCell _ ⟨X, 1, none⟩ _ k hk).trans (Below.heap_setCell _ ⟨X, 0, none⟩ _ k hk)

theorem below_drew {B : Nat} {w w' : World} (h : Below B w w') : Below B w w'.drew := ⟨h.os, h.tape, h.output, h.size, h.block⟩
end Go.Proofs.YtepondcflkledaaGreat.Q
end

section
namespace Go.Proofs.YtepondcflkledaaGreat.Q
set_option maxRecDepth 20000
open Go.RowKit

theorem rows1_any {w : World} {ad : Option Addr} {ab ao cap X Y : Nat} {L : List Rr} {most : Int} (h : Rs w ad ab ao L) (hl : L.length ≤ 1000) (hc : Cx w X Y most (.slice ad L.length cap)) (g : Int) (g0 : 0 ≤ g) (g1 : g ≤ 1000) (r : Rr) :
    Calls Tryz.prog 103 #[.int .i64 g, r.val, .pointer (some ⟨X, 0, none⟩), .pointer (some ⟨Y, 0, none⟩)] w fun e w' => e = .returned (.int .i64 (gdF most L g r)) ∧ Below w.heap.size w w' := by
  by_cases hf : r = fm (g + 1) r
  · by_cases hs : sMay most r
    · by_cases hb : bMay r
      · cases hh : shr L r with
        | true =>
          rw [show gdF most L g r = g from if_neg fun x => by rw [x.2.2.2] at hh; cases hh]
          exact rows1_D h hl hc g g0 g1 r (decide_eq_true hf) (decide_eq_true hs) (decide_eq_true hb) hh
        | false =>
          rw [show gdF most L g r = g + 1 from if_pos ⟨hf, hs, hb, hh⟩]
          exact rows1_E h hl hc g g0 g1 r (decide_eq_true hf) (decide_eq_true hs) (decide_eq_true hb) hh
      · rw [show gdF most L g r = g from if_neg fun x => hb x.2.2.1]
        exact rows1_C h hl hc g g0 g1 r (decide_eq_true hf) (decide_eq_true hs) (decide_eq_false hb)
    · rw [show gdF most L g r = g from if_neg fun x => hs x.2.1]
      exact rows1_B h hl hc g g0 g1 r (decide_eq_true hf) (decide_eq_false hs)
  · rw [show gdF most L g r = g from if_neg fun x => hf x.1]
    exact rows1_A h hl hc g g0 g1 r (decide_eq_false hf)
theorem gdF_le (m : Int) (L : List Rr) (g : Int) (r : Rr) : g ≤ gdF m L g r ∧ gdF m L g r ≤ g + 1 := by
  unfold gdF; split <;> omega
set_option maxHeartbeats 1000000 in
theorem rowsMay_no {w : World} {ad : Option Addr} {cap n : Nat} {most : Int} (hn : 8 < n) :
    Calls Tryz.prog 69 #[.int .i64 most, .slice ad n cap] w fun e w' => e = .returned (.bool false) ∧ Below w.heap.size w w' := by
  have hi : (8 : Int) < (n : Int) := by omega
  go_enter Tryz.func69, Tryz.ntmps69
  go_wp2
  go_ret
  exact ⟨rfl, (below_alloc w _).alloc (by simp) _⟩
set_option maxHeartbeats 1000000 in
set_option maxRecDepth 8000 in
theorem rowsMay_yes {w : World} {ad : Option Addr} {ab ao cap : Nat} {L : List Rr} {most : Int} (h : Rs w ad ab ao L) (hl : L.length ≤ 8) :
    Calls Tryz.prog 69 #[.int .i64 most, .slice ad L.length cap] w fun e w' => e = .returned (.bool (decide (L.foldl (gdF most L) 0 = (L.length : Int)))) ∧ Below w.heap.size w w' := by
  have hmf : ∀ (fn : Fn) (first cap : Array Value) (w : World), (Instr.makeFunc fn first cap).run Tryz.prog w = .ok (.func fn first cap) w := fun _ _ _ _ => rfl
  have hi : ¬ (8 : Int) < (L.length : Int) := by omega
  have s1 := World.size_alloc w (.cells #[.int .i64 most] 3)
  have hbw : Below w.heap.size w ((w.alloc (.cells #[.int .i64 most] 3)).alloc (.cells #[.slice ad L.length cap] 96)) := (below_alloc w _).alloc (by simp) _
  have hcx : Cx ((w.alloc (.cells #[.int .i64 most] 3)).alloc (.cells #[.slice ad L.length cap] 96)) w.heap.size (w.heap.size + 1) most (.slice ad L.length cap) := ⟨by rw [World.cell?_alloc_past _ _ _ (by simp), World.cell?_alloc_at _ _ _ _ rfl]; rfl, by rw [World.cell?_alloc_at _ _ _ _ (by simp)]; rfl⟩
  have HW := hide hbw
  have HX := hide hcx
  have HR := hide (h.below hbw)
  have cy := hcx.y
  have HKy : Hid (∀ V, Below ((w.alloc (.cells #[.int .i64 most] 3)).alloc (.cells #[.slice ad L.length cap] 96)).heap.size ((w.alloc (.cells #[.int .i64 most] 3)).alloc (.cells #[.slice ad L.length cap] 96)) V → V.cell? ⟨w.heap.size + 1, 0, none⟩ = some (.slice ad L.length cap)) := hide fun V hV => (hcx.below hV).y
  have hsz : w.heap.size ≤ ((w.alloc (.cells #[.int .i64 most] 3)).alloc (.cells #[.slice ad L.length cap] 96)).heap.size := hbw.size
  clear h hcx hbw
  go_enter Tryz.func69, Tryz.ntmps69
  go_wp2_with fail
  generalize (w.alloc (.cells #[.int .i64 most] 3)).alloc (.cells #[.slice ad L.length cap] 96) = W at *
  refine (askI_any (cap := cap) HR.out (by omega) 103 #[.pointer (some ⟨w.heap.size, 0, none⟩), .pointer (some ⟨w.heap.size + 1, 0, none⟩)] (gdF most L) (fun i g => 0 ≤ g ∧ g ≤ i) 0 ⟨Int.le_refl _, Int.le_refl _⟩ (fun _ _ _ => rfl) (fun w1 i hi a hb hp => ⟨by have := gdF_le most L a L[i]; omega, rows1_any (HR.out.below hb) (by omega) (HX.out.below hb) a hp.1 (by omega) L[i]⟩)).mono ?_
  rintro e w2 ⟨rfl, hB2, hP2⟩
  have k2 := HKy.out _ hB2
  have HBf := hide (HW.out.trans (hB2.mono hsz))
  clear cy HR HX HKy HW hB2
  obtain ⟨q, hq⟩ : ∃ q, L.foldl (gdF most L) 0 = q := ⟨_, rfl⟩
  have HQ := hide hq
  rw [hq] at hP2 ⊢
  clear hq
  go_wp2_with fail
  go_ret
  exact ⟨by rw [HQ.out]; show Ending.returned (.bool (q == (L.length : Int))) = _; congr 2, HBf.out⟩
theorem rowsMay_any {w : World} {ad : Option Addr} {ab ao cap : Nat} {L : List Rr} {most : Int} (h : Rs w ad ab ao L) :
    Calls Tryz.prog 69 #[.int .i64 most, .slice ad L.length cap] w fun e w' => (ROk most L ∧ e = .returned (.bool true) ∨ ¬ ROk most L ∧ e = .returned (.bool false)) ∧ Below w.heap.size w w' := by
  by_cases hl : L.length ≤ 8
  · refine (rowsMay_yes h hl).mono ?_
    rintro e w' ⟨rfl, hB⟩
    by_cases hr : ROk most L
    · rw [decide_eq_true ((rok_iff most L hl).2 hr)]; exact ⟨.inl ⟨hr, rfl⟩, hB⟩
    · rw [decide_eq_false fun x => hr ((rok_iff most L hl).1 x)]; exact ⟨.inr ⟨hr, rfl⟩, hB⟩
  · refine (rowsMay_no (by omega)).mono ?_
    rintro e w' ⟨rfl, hB⟩
    exact ⟨.inr ⟨fun x => hl x.len, rfl⟩, hB⟩

/-- blocks F of w are turned, F' is what they have become -/
structure Mv (F F' : Nat → Prop) (w w' : World) : Prop where
  os : w'.os = w.os
  tape : w'.tape = w.tape
  output : w'.output = w.output
  size : w.heap.size ≤ w'.heap.size
  block : ∀ k, k < w.heap.size → ¬ F k → w'.heap[k]? = w.heap[k]?
  foot : ∀ k, F' k → F k ∨ w.heap.size ≤ k
theorem Mv.trans {F G H : Nat → Prop} {a b c : World} (h : Mv F G a b) (k : Mv G H b c) : Mv F H a c :=
  ⟨k.os.trans h.os, k.tape.trans h.tape, k.output.trans h.output, Nat.le_trans h.size k.size,
    fun i hi hf => (k.block i (Nat.lt_of_lt_of_le hi h.size) (fun hg => (h.foot i hg).elim hf (fun h2 => absurd hi (by omega)))).trans (h.block i hi hf),
    fun i hi => (k.foot i hi).elim (h.foot i) (fun h2 => .inr (Nat.le_trans h.size h2))⟩
theorem Mv.below {F F' : Nat → Prop} {w w' : World} (h : Mv F F' w w') {B : Nat} (hB : B ≤ w.heap.size) (hF : ∀ k, F k → B ≤ k) : Below B w w' :=
  ⟨h.os, h.tape, h.output, h.size, fun k hk => h.block k (by omega) (fun hf => absurd (hF k hf) (by omega))⟩
theorem Mv.of_below {F : Nat → Prop} {w w' : World} (h : Below w.heap.size w w') : Mv F F w w' :=
  ⟨h.os, h.tape, h.output, h.size, fun k hk _ => h.block k hk, fun _ hk => .inl hk⟩
/-- a queue: a number and a slice of rows -/
structure Qm (T base : Nat) (w : World) (b : Nat) (v : Value) (m : Int) (L : List Rr) : Prop where
  blk : w.heap[b]? = some (.cells #[.int .i64 m, v] T (0, 0))
  low : base ≤ b
  row : w.ownsRow base 82 8 v L.length (rcs L)
  apt : v.ownBlock ≠ some b
/-- its blocks -/
def Ft (b : Nat) (v : Value) (k : Nat) : Prop := k = b ∨ v.ownBlock = some k
section
variable {T base : Nat} {w : World} {b : Nat} {v : Value} {L : List Rr} {m : Int}
theorem Qm.lt (h : Qm T base w b v m L) : b < w.heap.size := lt_of_block h.blk
theorem Qm.c0 (h : Qm T base w b v m L) : w.cell? ⟨b, 0, none⟩ = some (.int .i64 m) := by have := h.blk; simp [World.cell?, this]
theorem Qm.c1 (h : Qm T base w b v m L) : w.cell? ⟨b, 1, none⟩ = some v := by have := h.blk; simp [World.cell?, this]
theorem Qm.z (h : Qm T base w b v m L) (k : Nat) : w.frozen? ⟨b, k, none⟩ = false := by have := h.blk; simp [World.frozen?, this]
theorem Qm.ftlt (h : Qm T base w b v m L) : ∀ k, Ft b v k → base ≤ k ∧ k < w.heap.size := by
  rintro k (rfl | hk)
  · exact ⟨h.low, h.lt⟩
  · exact h.row.lt k hk
theorem Qm.keep {w' : World} (h : Qm T base w b v m L) (hs : ∀ k, Ft b v k → w'.heap[k]? = w.heap[k]?) : Qm T base w' b v m L := by
  refine ⟨(hs b (.inl rfl)).trans h.blk, h.low, ?_, h.apt⟩
  refine ⟨h.row.1, ?_⟩
  rcases h.row.2 with h1 | ⟨g, cap, cur, rfl, hb, hg, h2⟩
  · exact .inl h1
  · exact .inr ⟨g, cap, cur, rfl, hb, (hs g (.inr rfl)).trans hg, h2⟩
theorem Qm.below {w' : World} (h : Qm T base w b v m L) (hb : Below w.heap.size w w') : Qm T base w' b v m L :=
  h.keep fun k hk => hb.block k (h.ftlt k hk).2
theorem Qm.mv {w' : World} {F F' : Nat → Prop} (h : Qm T base w b v m L) (hm : Mv F F' w w') (ha : ∀ k, Ft b v k → ¬ F k) : Qm T base w' b v m L :=
  h.keep fun k hk => hm.block k (h.ftlt k hk).2 (ha k hk)
theorem Qm.form (h : Qm T base w b v m L) : ∃ ad cap ab, v = .slice ad L.length cap ∧ Rs w ad ab 0 L ∧ L.length ≤ cap := by
  rcases h.row.2 with ⟨rfl, hn⟩ | ⟨g, cap, cur, rfl, _⟩
  · obtain rfl : L = [] := List.length_eq_zero_iff.1 hn
    exact ⟨none, 0, 0, rfl, ⟨fun h => absurd h (by simp), fun i hi => absurd hi (by simp)⟩, Nat.zero_le _⟩
  · obtain ⟨ab, h1, _, h2⟩ := Rs.own h.row
    exact ⟨_, cap, ab, rfl, h1, h2⟩
end
end Go.Proofs.YtepondcflkledaaGreat.Q
end

section
namespace Go.Proofs.YtepondcflkledaaGreat.Q
set_option maxRecDepth 20000
open Go.RowKit

/-- what Load leaves -/
inductive LPost (x : Int) (L : List Rr) (w : World) (e : Ending) (w' : World) : Prop
  | arg : ¬ (1 ≤ x ∧ x ≤ 8) → e = .returned (.tuple #[.pointer none, .int .i64 1]) → Below w.heap.size w w' → LPost x L w e w'
  | form : 1 ≤ x ∧ x ≤ 8 → ¬ ROk x L → e = .returned (.tuple #[.pointer none, .int .i64 114]) → Below w.heap.size w w' → LPost x L w e w'
  | ok (b : Nat) (v : Value) : Ok x L → e = .returned (.tuple #[.pointer (some ⟨b, 0, none⟩), .int .i64 0]) → Qm 142 w.heap.size w' b v x L → Below w.heap.size w w' → LPost x L w e w'
set_option maxHeartbeats 1000000 in
theorem load_any {w : World} {ad : Option Addr} {ab ao cap : Nat} {L : List Rr} {x : Int} (h : Rs w ad ab ao L) :
    Calls Tryz.prog 39 #[.int .i64 x, .slice ad L.length cap] w (LPost x L w) := by
  by_cases h1 : x < 1
  · go_enter Tryz.func39, Tryz.ntmps39
    go_wp2
    go_ret2
    exact .arg (by omega) rfl (Below.refl _ _)
  by_cases h2 : 8 < x
  · go_enter Tryz.func39, Tryz.ntmps39
    go_wp2
    go_ret2
    exact .arg (by omega) rfl (Below.refl _ _)
  have HR := hide h
  have HM := hide (rowsMay_any (most := x) (cap := cap) h)
  clear h
  go_enter Tryz.func39, Tryz.ntmps39
  go_wp2_with fail
  refine HM.out.mono ?_
  rintro e w1 ⟨⟨hr, rfl⟩ | ⟨hr, rfl⟩, hB1⟩
  · have HR1 := hide (HR.out.below hB1)
    have HB1 := hide hB1
    have HO := hide hr
    have hl := hr.len
    clear hr hB1 HM
    go_wp2_with fail
    refine (copied_any (cap := cap) HR1.out (by omega)).mono ?_
    rintro e w2 ⟨rfl, ho2, hB2⟩
    have HO2 := hide ho2
    have HB2 := hide hB2
    have hlt : w1.heap.size < w2.heap.size := (ho2.lt w1.heap.size rfl).2
    clear ho2 hB2
    go_wp2_with fail
    go_ret2
    have hs1 := HB1.out.size
    refine .ok w2.heap.size (.slice (some ⟨w1.heap.size, 0, none⟩) L.length L.length) ⟨HO.out, by omega, by omega⟩ rfl ⟨heap_alloc_new w2 _, by omega, ?_, ?_⟩ (HB1.out.trans ((HB2.out.mono hs1).alloc (by omega) _))
    · have h3 := HO2.out
      refine ⟨h3.1, ?_⟩
      rcases h3.2 with h4 | ⟨g, c, cur, he, hg, hh, h5⟩
      · exact .inl h4
      · exact .inr ⟨g, c, cur, he, by omega, (Below.heap_alloc _ _ _ (lt_of_block hh)).trans hh, h5⟩
    · simp only [Value.ownBlock]; intro e; injection e with e; omega
  · have HB1 := hide hB1
    clear HM HR
    go_wp2_with fail
    go_ret2
    exact .form (by omega) hr rfl HB1.out
/-- what New leaves -/
inductive NPost (x : Int) (w : World) (e : Ending) (w' : World) : Prop
  | arg : ¬ (1 ≤ x ∧ x ≤ 8) → e = .returned (.tuple #[.pointer none, .int .i64 1]) → Below w.heap.size w w' → NPost x w e w'
  | ok (b : Nat) (v : Value) : Ok x [] → e = .returned (.tuple #[.pointer (some ⟨b, 0, none⟩), .int .i64 0]) → Qm 142 w.heap.size w' b v x [] → Below w.heap.size w w' → NPost x w e w'
set_option maxHeartbeats 1000000 in
theorem qnew_any (w : World) (x : Int) : Calls Tryz.prog 16 #[.int .i64 x] w (NPost x w) := by
  have HL := hide (load_any (x := x) (cap := 0) (show Rs w none 0 0 [] from ⟨fun h => absurd h (by simp), fun i hi => absurd hi (by simp)⟩))
  simp only [List.length_nil] at HL
  go_enter Tryz.func16, Tryz.ntmps16
  go_wp2_with fail
  refine HL.out.mono ?_
  rintro e w1 (⟨h1, rfl, h2⟩ | ⟨_, h1, _⟩ | ⟨b, v, h1, rfl, h2, h3⟩)
  · go_wp2_with fail
    go_ret2
    exact .arg h1 rfl h2
  · exact absurd (ROk.nil x) h1
  · go_wp2_with fail
    go_ret2
    exact .ok b v h1 rfl h2 h3
section
variable {base : Nat} {w : World} {b : Nat} {v : Value} {L : List Rr} {m : Int}
set_option maxHeartbeats 1000000 in
theorem qhead_any (h : Qm 142 base w b v m L) (hl : L.length ≤ 8) : Calls Tryz.prog 77 #[.pointer (some ⟨b, 0, none⟩)] w fun e w' => e = .returned (.int .i64 (hd L)) ∧ Below w.heap.size w w' := by
  obtain ⟨ad, cap, ab, rfl, hR, _⟩ := h.form
  have c1 := h.c1
  have HA := hide (askI_any (cap := cap) hR (by omega) 115 #[] hdF (fun _ _ => True) 0 trivial (fun _ _ _ => rfl) (fun w1 i hi a _ _ => ⟨trivial, head1_any w1 a L[i]⟩))
  clear h hR
  go_enter Tryz.func77, Tryz.ntmps77
  go_wp2_with fail
  refine HA.out.mono ?_
  rintro e w1 ⟨rfl, hB, _⟩
  go_wp2_with fail
  go_ret
  exact ⟨rfl, hB⟩
set_option maxHeartbeats 1000000 in
theorem qrows_any (h : Qm 142 base w b v m L) (hl : L.length ≤ 8) : Calls Tryz.prog 37 #[.pointer (some ⟨b, 0, none⟩)] w fun e w' => e = .returned (.slice (some ⟨w.heap.size, 0, none⟩) L.length L.length) ∧ w'.ownsRow w.heap.size 82 8 (.slice (some ⟨w.heap.size, 0, none⟩) L.length L.length) L.length (rcs L) ∧ Below w.heap.size w w' := by
  obtain ⟨ad, cap, ab, rfl, hR, _⟩ := h.form
  have c1 := h.c1
  have HA := hide (copied_any (cap := cap) hR (by omega))
  clear h hR
  go_enter Tryz.func37, Tryz.ntmps37
  go_wp2_with fail
  refine HA.out.mono ?_
  rintro e w1 ⟨rfl, ho, hB⟩
  go_wp2_with fail
  go_ret
  exact ⟨rfl, ho, hB⟩
/-- what Row tells -/
def rowR (L : List Rr) (j : Int) : Rr := if 1 ≤ j ∧ j ≤ (L.length : Int) then L.getD (j - 1).toNat rr0 else rr0
def rowB (L : List Rr) (j : Int) : Bool := decide (1 ≤ j ∧ j ≤ (L.length : Int))
set_option maxHeartbeats 1000000 in
set_option maxRecDepth 8000 in
theorem qrow_any (h : Qm 142 base w b v m L) (hl : L.length ≤ 8) (j : Int) : Calls Tryz.prog 147 #[.pointer (some ⟨b, 0, none⟩), .int .i64 j] w fun e w' => e = .returned (.tuple #[(rowR L j).val, .bool (rowB L j)]) ∧ Below w.heap.size w w' := by
  obtain ⟨ad, cap, ab, rfl, hR, _⟩ := h.form
  have hlt := h.lt
  have c1 : ∀ o, (w.alloc o).cell? ⟨b, 1, none⟩ = some (.slice ad L.length cap) := fun o => Lib.cell?_alloc_some _ h.c1
  by_cases h1 : j < 1
  · have HE : Hid (rowR L j = rr0) := if_neg (by omega)
    have HF : Hid (rowB L j = false) := decide_eq_false (by omega)
    go_enter Tryz.func147, Tryz.ntmps147
    go_wp2
    refine bodyPost_ret (by rw [results_cell_tmp (fn := Tryz.f147) rfl]; go_simp; rfl) rfl ?_
    exact ⟨by rw [HE.out, HF.out]; rfl, below_alloc _ _⟩
  by_cases h2 : (L.length : Int) < j
  · have HE : Hid (rowR L j = rr0) := if_neg (by omega)
    have HF : Hid (rowB L j = false) := decide_eq_false (by omega)
    go_enter Tryz.func147, Tryz.ntmps147
    go_wp2
    refine bodyPost_ret (by rw [results_cell_tmp (fn := Tryz.f147) rfl]; go_simp; rfl) rfl ?_
    exact ⟨by rw [HE.out, HF.out]; rfl, below_alloc _ _⟩
  obtain ⟨n, rfl⟩ : ∃ n : Nat, j = (n : Int) + 1 := ⟨(j - 1).toNat, by omega⟩
  have hn : n < L.length := by omega
  have HE : Hid (rowR L ((n : Int) + 1) = L[n]) := by
    show rowR L _ = _
    unfold rowR
    rw [if_pos (by omega), show ((n : Int) + 1 - 1).toNat = n by omega, List.getD_eq_getElem?_getD, List.getElem?_eq_getElem hn]; rfl
  have HF : Hid (rowB L ((n : Int) + 1) = true) := decide_eq_true (by omega)
  have hat := hR.at_ (by omega)
  subst hat
  have hlr := hR.lt (by omega)
  obtain ⟨k0, k1, k2, k3, k4, k5, k6, k7⟩ := hR.eight0 hn
  have e1 : (n : Int) + 1 - 1 = (n : Int) := by omega
  have hnI : (n : Int) < (L.length : Int) := by omega
  clear h hR
  generalize L[n] = r at *
  go_enter Tryz.func147, Tryz.ntmps147
  go_wp2
  refine bodyPost_ret (by rw [results_cell_tmp (fn := Tryz.f147) rfl]; go_simp; rfl) rfl ?_
  exact ⟨by rw [HE.out, HF.out], below_alloc _ _⟩
end
end Go.Proofs.YtepondcflkledaaGreat.Q
end

section
namespace Go.Proofs.YtepondcflkledaaGreat.Q
set_option maxRecDepth 20000
open Go.RowKit

section
variable {base : Nat} {w : World} {b : Nat} {v : Value} {L : List Rr} {m : Int}
set_option maxHeartbeats 400000 in
set_option maxRecDepth 8000 in
theorem qfind_any (h : Qm 142 base w b v m L) (hl : L.length ≤ 8) (g : Int) : Calls Tryz.prog 49 #[.pointer (some ⟨b, 0, none⟩), .int .i64 g] w fun e w' => e = .returned (.tuple #[(fnd g L).val, .bool (!decide (fnd g L = rr0))]) ∧ Below w.heap.size w w' := by
  obtain ⟨ad, cap, ab, rfl, hR, _⟩ := h.form
  have hmf : ∀ (fn : Fn) (first cap : Array Value) (w : World), (Instr.makeFunc fn first cap).run Tryz.prog w = .ok (.func fn first cap) w := fun _ _ _ _ => rfl
  have hlt := h.lt
  have s1 := World.size_alloc w (.cells #[.int .i64 g] 3)
  have hbw : Below w.heap.size w ((w.alloc (.cells #[.int .i64 g] 3)).alloc rr0.obj) := (below_alloc w _).alloc (by simp) _
  have c1 : ((w.alloc (.cells #[.int .i64 g] 3)).alloc rr0.obj).cell? ⟨b, 1, none⟩ = some (.slice ad L.length cap) := Lib.cell?_alloc_some _ (Lib.cell?_alloc_some _ h.c1)
  have hp : ((w.alloc (.cells #[.int .i64 g] 3)).alloc rr0.obj).cell? ⟨w.heap.size, 0, none⟩ = some (.int .i64 g) := by rw [World.cell?_alloc_past _ _ _ (by simp), World.cell?_alloc_at _ _ _ _ rfl]; rfl
  have hy : Bx ((w.alloc (.cells #[.int .i64 g] 3)).alloc rr0.obj) (w.heap.size + 1) rr0 := by rw [← s1]; exact heap_alloc_new _ _
  have HA : Hid (Calls Tryz.prog 78 #[.slice ad L.length cap, rr0.val, .func (.func 79) #[] #[.pointer (some ⟨w.heap.size, 0, none⟩)]] ((w.alloc (.cells #[.int .i64 g] 3)).alloc rr0.obj) fun e w' => e = .returned (fnd g L).val ∧ Below ((w.alloc (.cells #[.int .i64 g] 3)).alloc rr0.obj).heap.size ((w.alloc (.cells #[.int .i64 g] 3)).alloc rr0.obj) w') :=
    hide (askR_any (cap := cap) (hR.below hbw) (by omega) 79 #[.pointer (some ⟨w.heap.size, 0, none⟩)] (fnF g) rr0 (fun _ _ _ => rfl) (fun w1 i hi a hB => find1_any ((World.cell?_of_block (hB.block _ (World.block_lt_of_cell? _ _ hp))).trans hp) a L[i]))
  have HW := hide hbw
  have HY := hide hy
  have hob : rr0.obj = .cells #[.int .i64 0, .int .i64 0, .int .i64 0, .int .i64 0, .int .i64 0, .int .i64 0, .int .i64 0, .int .u64 0] 82 (0, 0) := rfl
  have hsz := hbw.size
  rw [hob] at HA c1 HW HY hsz
  have hg := guardR
  have hn : ∀ W : World, (binOp .neq 82 (fnd g L).val (.agg #[.int .i64 0, .int .i64 0, .int .i64 0, .int .i64 0, .int .i64 0, .int .i64 0, .int .i64 0, .int .u64 0])).run Tryz.prog W = .ok (.bool (!decide (fnd g L = rr0))) W := neqR_any (fnd g L) rr0
  obtain ⟨D, hD⟩ : ∃ D, (!decide (fnd g L = rr0)) = D := ⟨_, rfl⟩
  obtain ⟨F, hF⟩ : ∃ F, fnd g L = F := ⟨_, rfl⟩
  have HD := hide hD
  have HF := hide hF
  rw [hD, hF] at hn
  rw [hF] at HA
  clear h hR hp hy hbw hD hF hob s1
  go_enter Tryz.func49, Tryz.ntmps49
  go_wp2_with fail
  generalize (w.alloc (.cells #[.int .i64 g] 3)).alloc (.cells #[.int .i64 0, .int .i64 0, .int .i64 0, .int .i64 0, .int .i64 0, .int .i64 0, .int .i64 0, .int .u64 0] 82) = W0 at *
  refine HA.out.mono ?_
  rintro e w2 ⟨rfl, hB2⟩
  have HB2 := hide (HW.out.trans (hB2.mono hsz))
  have hy2 : Bx w2 (w.heap.size + 1) rr0 := HY.out.keep (hB2.block _ HY.out.lt)
  have hylt := hy2.lt
  obtain ⟨d0, d1, d2, d3, d4, d5, d6, d7⟩ := hy2.cells
  have hz : ∀ k, w2.frozen? ⟨w.heap.size + 1, k, none⟩ = false := fun k => hy2.z k
  have z0 := hz 0
  have z1 := hz 1
  have z2 := hz 2
  have z3 := hz 3
  have z4 := hz 4
  have z5 := hz 5
  have z6 := hz 6
  have z7 := hz 7
  have HBf : Hid (Below w.heap.size w ((set8 w2 (w.heap.size + 1) F).alloc F.obj).drew) := hide (below_drew ((set8_below HB2.out _ (by omega) _).alloc (by rw [set8_size]; exact HB2.out.size) _))
  clear c1 HA HW HY hB2 hy2 hz
  go_wp2_with fail
  go_region
  go_wp2
  refine bodyPost_ret (by rw [results_cell_tmp (fn := Tryz.f49) rfl]; go_simp; rfl) rfl ?_
  exact ⟨by rw [HF.out, ← HD.out, HF.out], HBf.out⟩

/-- held: told by Find -/
def hldB (g : Int) (L : List Rr) : Bool := (!decide (fnd g L = rr0)) && decide ((fnd g L).st = 2)
set_option maxHeartbeats 400000 in
set_option maxRecDepth 8000 in
theorem qheld_any (h : Qm 142 base w b v m L) (hl : L.length ≤ 8) (g : Int) : Calls Tryz.prog 151 #[.pointer (some ⟨b, 0, none⟩), .int .i64 g] w fun e w' => e = .returned (.tuple #[(fnd g L).val, .bool (hldB g L)]) ∧ Below w.heap.size w w' := by
  have hob : rr0.obj = .cells #[.int .i64 0, .int .i64 0, .int .i64 0, .int .i64 0, .int .i64 0, .int .i64 0, .int .i64 0, .int .u64 0] 82 (0, 0) := rfl
  have HA := hide (qfind_any (h.below (below_alloc w rr0.obj)) hl g)
  have HY : Hid (Bx (w.alloc rr0.obj) w.heap.size rr0) := hide (heap_alloc_new w _)
  have HW := hide (below_alloc w rr0.obj)
  have hsz := World.size_alloc w rr0.obj
  rw [hob] at HA HY HW hsz
  have HE : Hid (hldB g L = ((!decide (fnd g L = rr0)) && decide ((fnd g L).st = 2))) := hide rfl
  generalize hldB g L = E at *
  generalize (!decide (fnd g L = rr0)) = D at *
  generalize fnd g L = F at *
  clear h hob
  go_enter Tryz.func151, Tryz.ntmps151
  go_wp2_with fail
  generalize w.alloc (.cells #[.int .i64 0, .int .i64 0, .int .i64 0, .int .i64 0, .int .i64 0, .int .i64 0, .int .i64 0, .int .u64 0] 82) = W0 at *
  refine HA.out.mono ?_
  rintro e w2 ⟨rfl, hB2⟩
  have HB2 := hide (HW.out.trans (hB2.mono (by omega)))
  have hy2 : Bx w2 w.heap.size rr0 := HY.out.keep (hB2.block _ HY.out.lt)
  have hylt := hy2.lt
  obtain ⟨d0, d1, d2, d3, d4, d5, d6, d7⟩ := hy2.cells
  have z0 := hy2.z 0
  have z1 := hy2.z 1
  have z2 := hy2.z 2
  have z3 := hy2.z 3
  have z4 := hy2.z 4
  have z5 := hy2.z 5
  have z6 := hy2.z 6
  have z7 := hy2.z 7
  have HBf : Hid (Below w.heap.size w ((set8 w2 w.heap.size F).alloc F.obj).drew) := hide (below_drew ((set8_below HB2.out _ (Nat.le_refl _) _).alloc (by rw [set8_size]; exact HB2.out.size) _))
  clear HA HW HY hB2 hy2
  cases D with
  | true =>
    by_cases h2 : F.st = 2
    · have b2 : (F.st == 2) = true := by simpa using h2
      have HE2 : Hid (E = true) := by rw [HE.out]; exact hide (by simp [h2])
      clear h2 HE
      go_wp2_with fail
      go_region
      go_wp2
      refine bodyPost_ret (by rw [results_cell_tmp (fn := Tryz.f151) rfl]; go_simp; rfl) rfl ?_
      exact ⟨by rw [HE2.out], HBf.out⟩
    · have b2 : (F.st == 2) = false := by simpa using h2
      have HE2 : Hid (E = false) := by rw [HE.out]; exact hide (by simp [h2])
      clear h2 HE
      go_wp2_with fail
      go_region
      go_wp2
      refine bodyPost_ret (by rw [results_cell_tmp (fn := Tryz.f151) rfl]; go_simp; rfl) rfl ?_
      exact ⟨by rw [HE2.out], HBf.out⟩
  | false =>
    have HE2 : Hid (E = false) := by rw [HE.out]; exact hide (by simp)
    clear HE
    go_wp2_with fail
    go_region
    go_wp2
    refine bodyPost_ret (by rw [results_cell_tmp (fn := Tryz.f151) rfl]; go_simp; rfl) rfl ?_
    exact ⟨by rw [HE2.out], HBf.out⟩
end
end Go.Proofs.YtepondcflkledaaGreat.Q
end

section
namespace Go.Proofs.YtepondcflkledaaGreat.Q
set_option maxRecDepth 20000
open Go.RowKit

/-- cells set one behind the other -/
def setL (l : List Value) (a : Nat) : List Value → List Value
  | [] => l
  | x :: xs => setL (l.set a x) (a + 1) xs
theorem setL_eq : ∀ (xs l : List Value) (a : Nat), a + xs.length ≤ l.length → setL l a xs = l.take a ++ xs ++ l.drop (a + xs.length)
  | [], l, a, _ => by simp [setL]
  | x :: xs, l, a, h => by
    have h' : a + (xs.length + 1) ≤ l.length := by simpa using h
    rw [setL, setL_eq xs (l.set a x) (a + 1) (by simp; omega)]
    exact list_seg_step l a x xs h'
abbrev set8a (w : World) (X a : Nat) (r : Rr) : World := (((((((w.setCell ⟨X, a, none⟩ (.int .i64 r.job)).setCell ⟨X, a + 1, none⟩ (.int .i64 r.st)).setCell ⟨X, a + 2, none⟩ (.int .i64 r.att)).setCell ⟨X, a + 3, none⟩ (.int .i64 r.bdg)).setCell ⟨X, a + 4, none⟩ (.int .i64 r.node)).setCell ⟨X, a + 5, none⟩ (.int .i64 r.life)).setCell ⟨X, a + 6, none⟩ (.int .i64 r.code)).setCell ⟨X, a + 7, none⟩ (.int .u64 r.bits)
theorem set8a_heap {w : World} {X : Nat} {cur : Array Value} {t : TypeId} (h : w.heap[X]? = some (.cells cur t (0, 0))) (a : Nat) (r : Rr) : (set8a w X a r).heap[X]? = some (.cells (setL cur.toList a r.cs).toArray t (0, 0)) := by
  have e0 := heap_set_self w X a (.int .i64 r.job) _ _ _ h
  have e1 := heap_set_self _ X (a + 1) (.int .i64 r.st) _ _ _ e0
  have e2 := heap_set_self _ X (a + 2) (.int .i64 r.att) _ _ _ e1
  have e3 := heap_set_self _ X (a + 3) (.int .i64 r.bdg) _ _ _ e2
  have e4 := heap_set_self _ X (a + 4) (.int .i64 r.node) _ _ _ e3
  have e5 := heap_set_self _ X (a + 5) (.int .i64 r.life) _ _ _ e4
  have e6 := heap_set_self _ X (a + 6) (.int .i64 r.code) _ _ _ e5
  have e7 := heap_set_self _ X (a + 7) (.int .u64 r.bits) _ _ _ e6
  have e8 : (((((((cur.setIfInBounds a (.int .i64 r.job)).setIfInBounds (a + 1) (.int .i64 r.st)).setIfInBounds (a + 2) (.int .i64 r.att)).setIfInBounds (a + 3) (.int .i64 r.bdg)).setIfInBounds (a + 4) (.int .i64 r.node)).setIfInBounds (a + 5) (.int .i64 r.life)).setIfInBounds (a + 6) (.int .i64 r.code)).setIfInBounds (a + 7) (.int .u64 r.bits) = (setL cur.toList a r.cs).toArray := by
    apply Array.ext'
    simp only [Array.toList_setIfInBounds, Rr.cs, setL]
  rw [e8] at e7
  exact e7
theorem take_mid (C xs : List Value) (a N : Nat) (h8 : xs.length = 8) (ha : a + 8 ≤ N) (hN : N ≤ C.length) : (C.take a ++ xs ++ C.drop (a + 8)).take N = (C.take N).take a ++ (xs ++ (C.take N).drop (a + 8)) := by
  obtain ⟨P, R, hC, hP⟩ : ∃ P R, C = P ++ R ∧ P.length = N := ⟨C.take N, C.drop N, (List.take_append_drop N C).symm, by rw [List.length_take]; omega⟩
  subst hC
  have e1 : (P ++ R).take N = P := by rw [← hP]; simp
  rw [e1, List.take_append_of_le_length (show a ≤ P.length by omega), List.drop_append_of_le_length (show a + 8 ≤ P.length by omega)]
  have e2 : (P.take a ++ xs ++ P.drop (a + 8)).length = N := by
    simp only [List.length_append, List.length_take, List.length_drop, h8]
    omega
  rw [show P.take a ++ xs ++ (P.drop (a + 8) ++ R) = (P.take a ++ xs ++ P.drop (a + 8)) ++ R by simp]
  rw [List.take_append_of_le_length (by omega), List.take_of_length_le (by omega), List.append_assoc]
theorem set8a_other (w : World) (X a : Nat) (r : Rr) (k : Nat) (hk : k ≠ X) : (set8a w X a r).heap[k]? = w.heap[k]? :=
  (Below.heap_setCell _ ⟨X, a + 7, none⟩ _ k hk).trans ((Below.heap_setCell _ ⟨X, a + 6, none⟩ _ k hk).trans ((Below.heap_setCell _ ⟨X, a + 5, none⟩ _ k hk).trans ((Below.heap_setCell _ ⟨X, a + 4, none⟩ _ k hk).trans ((Below.heap_setCell _ ⟨X, a + 3, none⟩ _ k hk).trans ((Below.heap_setCell _ ⟨X, a + 2, none⟩ _ k hk).trans ((Below.heap_setCell _ ⟨X, a + 1, none⟩ _ k hk).trans (Below.heap_setCell _ ⟨X, a, none⟩ _ k hk)))))))
theorem set8a_size (w : World) (X a : Nat) (r : Rr) : (set8a w X a r).heap.size = w.heap.size := by
  unfold set8a
  simp only [setCell_size]
/-- only what lies in one block is turned -/
theorem mv_set {F : Nat → Prop} {w w' : World} (h : Mv F F w w') {X : Nat} (hX : F X) (o : Nat) (v : Value) : Mv F F w (w'.setCell ⟨X, o, none⟩ v) :=
  ⟨h.os, h.tape, h.output, by rw [setCell_size]; exact h.size, fun k hk hn => (Below.heap_setCell _ ⟨X, o, none⟩ _ k (show k ≠ X from fun e => hn (by rw [e]; exact hX))).trans (h.block k hk hn), h.foot⟩
theorem mv_set8a {F : Nat → Prop} {w w' : World} (h : Mv F F w w') {X : Nat} (hX : F X) (a : Nat) (r : Rr) : Mv F F w (set8a w' X a r) := by
  have e0 := mv_set h hX a (.int .i64 r.job)
  have e1 := mv_set e0 hX (a + 1) (.int .i64 r.st)
  have e2 := mv_set e1 hX (a + 2) (.int .i64 r.att)
  have e3 := mv_set e2 hX (a + 3) (.int .i64 r.bdg)
  have e4 := mv_set e3 hX (a + 4) (.int .i64 r.node)
  have e5 := mv_set e4 hX (a + 5) (.int .i64 r.life)
  have e6 := mv_set e5 hX (a + 6) (.int .i64 r.code)
  exact mv_set e6 hX (a + 7) (.int .u64 r.bits)
theorem mv_refl (F : Nat → Prop) (w : World) : Mv F F w w := ⟨rfl, rfl, rfl, Nat.le_refl _, fun _ _ _ => rfl, fun _ h => .inl h⟩
theorem mv_alloc {F F' : Nat → Prop} {w w' : World} (h : Mv F F' w w') (o : Obj) : Mv F F' w (w'.alloc o) :=
  ⟨h.os, h.tape, h.output, by rw [World.size_alloc]; exact Nat.le_succ_of_le h.size, fun k hk hn => (Below.heap_alloc _ _ _ (Nat.lt_of_lt_of_le hk h.size)).trans (h.block k hk hn), h.foot⟩
theorem mv_drew {F F' : Nat → Prop} {w w' : World} (h : Mv F F' w w') : Mv F F' w w'.drew := ⟨h.os, h.tape, h.output, h.size, h.block, h.foot⟩
theorem own_set8a {w : World} {B g cap i : Nat} {L : List Rr} (h : w.ownsRow B 82 8 (.slice (some ⟨g, 0, none⟩) L.length cap) L.length (rcs L)) (hi : i < L.length) (r : Rr) :
    (set8a w g (i * 8) r).ownsRow B 82 8 (.slice (some ⟨g, 0, none⟩) L.length cap) L.length (rcs (L.set i r)) := by
  obtain ⟨hl, h2⟩ := h
  rcases h2 with ⟨h1, _⟩ | ⟨g', cap', cur, h1, hb, hg, hc, hm, hs, ht⟩
  · cases h1
  · injection h1 with h1 h2 h3
    injection h1 with h1
    injection h1 with h1
    subst h1; subst h3
    have hle : L.length * 8 ≤ cur.size := by rw [hs]; exact Nat.mul_le_mul_right _ hc
    have h8 : r.cs.length = 8 := rfl
    refine ⟨by rw [rcs_len, List.length_set], .inr ⟨g, cap, _, rfl, hb, set8a_heap hg _ _, hc, hm, ?_, ?_⟩⟩
    · rw [List.size_toArray, setL_eq _ _ _ (by rw [h8, Array.length_toList]; omega)]
      simp only [List.length_append, List.length_take, List.length_drop, h8, Array.length_toList]
      rw [Nat.min_eq_left (by omega)]
      omega
    · rw [List.toList_toArray, setL_eq _ _ _ (by rw [h8, Array.length_toList]; omega), rcs_set L i r hi, h8, ← ht]
      exact take_mid _ _ _ _ h8 (by omega) (by rw [Array.length_toList]; exact hle)
section
variable {T base : Nat} {w : World} {b : Nat} {v : Value} {L : List Rr} {m : Int}
theorem Qm.put1 {w' : World} {v' : Value} {L' : List Rr} (h : w'.heap[b]? = some (.cells #[.int .i64 m, v] T (0, 0))) (low : base ≤ b) (hr : w'.ownsRow base 82 8 v' L'.length (rcs L')) (hn : v'.ownBlock ≠ some b) : Qm T base (w'.setCell ⟨b, 1, none⟩ v') b v' m L' := by
  refine ⟨heap_set_self w' b 1 v' _ _ _ h, low, ?_, hn⟩
  refine ⟨hr.1, ?_⟩
  rcases hr.2 with h1 | ⟨g, cap, cur, rfl, hb, hg, h2⟩
  · exact .inl h1
  · exact .inr ⟨g, cap, cur, rfl, hb, (Below.heap_setCell w' ⟨b, 1, none⟩ _ g (fun e => hn (by rw [← show g = b from e]; rfl))).trans hg, h2⟩
theorem Qm.drew (h : Qm T base w b v m L) : Qm T base w.drew b v m L := h.keep fun _ _ => rfl
theorem Qm.alloc (h : Qm T base w b v m L) (o : Obj) : Qm T base (w.alloc o) b v m L := h.below (below_alloc w o)
theorem Qm.set8a {g cap i : Nat} (h : Qm T base w b (.slice (some ⟨g, 0, none⟩) L.length cap) m L) (hi : i < L.length) (r : Rr) : Qm T base (set8a w g (i * 8) r) b (.slice (some ⟨g, 0, none⟩) (L.set i r).length cap) m (L.set i r) := by
  have hne : b ≠ g := fun e => h.apt (by rw [e]; rfl)
  rw [List.length_set]
  exact ⟨(set8a_other _ _ _ _ _ hne).trans h.blk, h.low, by rw [List.length_set]; exact own_set8a h.row hi r, h.apt⟩
set_option maxHeartbeats 1000000 in
set_option maxRecDepth 8000 in
theorem qput_any (h : Qm 142 base w b v m L) (hl : L.length ≤ 8) {n : Nat} (hn : n < L.length) (r : Rr) (hr : r.job = (n : Int) + 1) : Calls Tryz.prog 149 #[.pointer (some ⟨b, 0, none⟩), r.val] w fun e w' => e = .returned (.tuple #[]) ∧ Qm 142 base w' b v m (L.set n r) ∧ Mv (Ft b v) (Ft b v) w w' := by
  obtain ⟨ad, cap, ab, rfl, hR, _⟩ := h.form
  have hat := hR.at_ (by omega)
  subst hat
  have hlt := h.lt
  have hlr := hR.lt (by omega)
  obtain ⟨k0, k1, k2, k3, k4, k5, k6, k7⟩ := hR.eight0 hn
  have hfz : ∀ o, w.frozen? ⟨ab, o, none⟩ = false := fun o => by
    rcases h.row.2 with ⟨h1, _⟩ | ⟨g', cap', cur, h1, hb, hg, _⟩
    · cases h1
    · injection h1 with h1; injection h1 with h1; injection h1 with h1; subst h1; simp [World.frozen?, hg]
  have z0 := hfz (n * 8)
  have z1 := hfz (n * 8 + 1)
  have z2 := hfz (n * 8 + 2)
  have z3 := hfz (n * 8 + 3)
  have z4 := hfz (n * 8 + 4)
  have z5 := hfz (n * 8 + 5)
  have z6 := hfz (n * 8 + 6)
  have z7 := hfz (n * 8 + 7)
  have c1 := h.c1
  have HQ : Hid (Qm 142 base ((set8a w ab (n * 8) r).alloc r.obj).drew b (.slice (some ⟨ab, 0, none⟩) L.length cap) m (L.set n r)) := by
    have := ((h.set8a hn r).alloc r.obj).drew
    rw [List.length_set] at this
    exact this
  have HM : Hid (Mv (Ft b (.slice (some ⟨ab, 0, none⟩) L.length cap)) (Ft b (.slice (some ⟨ab, 0, none⟩) L.length cap)) w ((set8a w ab (n * 8) r).alloc r.obj).drew) := hide (mv_drew (mv_alloc (mv_set8a (mv_refl _ _) (.inr rfl) _ _) _))
  have hnI : (n : Int) < (L.length : Int) := by omega
  have hj : r.job - 1 = (n : Int) := by omega
  have hn8 : (n : Int) ≤ 8 := by omega
  clear h hR hfz hr
  go_enter Tryz.func149, Tryz.ntmps149
  go_wp2
  go_region
  go_wp2
  go_end0
  exact ⟨rfl, HQ.out, HM.out⟩
end
end Go.Proofs.YtepondcflkledaaGreat.Q
end
