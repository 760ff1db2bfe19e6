import Derived.Test.YtjfgmdiafhkbgaaAuA
import Derived.Laws.OwnMore
namespace Go.Proofs.Ytjfgmdiafhkbgaa
open Go.RowKit Go.MapKept
set_option maxRecDepth 8000

/-- a number within its kind -/
def i64 (a : Int) : Prop := (Lit.int .i64 a).wf = true
def u64 (a : Int) : Prop := (Lit.int .u64 a).wf = true
theorem i64_of {a : Int} (h : -9223372036854775808 ≤ a ∧ a ≤ 9223372036854775807) : i64 a := by
  show (decide ((-9223372036854775808 : Int) ≤ a) && decide (a ≤ (9223372036854775807 : Int))) = true
  simp; omega
theorem i64_le {a : Int} (h : i64 a) : -9223372036854775808 ≤ a ∧ a ≤ 9223372036854775807 := by
  have h' : (decide ((-9223372036854775808 : Int) ≤ a) && decide (a ≤ (9223372036854775807 : Int))) = true := h
  simp at h'; omega
/-- an event -/
structure Ev where
  k : Int
  co : Int
  wn : Int
  wl : Int
  jo : Int
  ba : Int
  ix : Int
  ct : Int
  st : Int
  rt : Int
  rb : Int
  tx : ByteArray
  ts : List ByteArray
structure Ev.fit (e : Ev) : Prop where
  jo : i64 e.jo
  ba : i64 e.ba
  ix : i64 e.ix
  ct : i64 e.ct
  rt : i64 e.rt
  rb : u64 e.rb
  ts : e.ts.length ≤ 1048576
/-- its cells -/
def Ev.cs (e : Ev) (t : Value) : List Value := [.int .i64 e.k, .int .i64 e.co, .int .i64 e.wn, .int .i64 e.wl, .int .i64 e.jo, .int .i64 e.ba, .int .i64 e.ix, .int .i64 e.ct, .int .i64 e.st, .int .i64 e.rt, .int .u64 e.rb, .string e.tx, t]
abbrev Ev.v (e : Ev) (t : Value) : Value := .agg #[.int .i64 e.k, .int .i64 e.co, .int .i64 e.wn, .int .i64 e.wl, .int .i64 e.jo, .int .i64 e.ba, .int .i64 e.ix, .int .i64 e.ct, .int .i64 e.st, .int .i64 e.rt, .int .u64 e.rb, .string e.tx, t]
/-- a job, as it is known -/
structure Jb where
  st : Int
  ba : Int
  rt : Int
  rb : Int
  lg : List ByteArray
  deriving DecidableEq, Inhabited
def j0 : Jb := ⟨0, 0, 0, 0, []⟩
def Jb.cs (j : Jb) (t : Value) : List Value := [.int .i64 j.st, .int .i64 j.ba, .int .i64 j.rt, .int .u64 j.rb, t]
abbrev Jb.v (j : Jb) (t : Value) : Value := .agg #[.int .i64 j.st, .int .i64 j.ba, .int .i64 j.rt, .int .u64 j.rb, t]
def jcs : List (Jb × Value) → List Value
  | [] => []
  | x :: l => x.1.cs x.2 ++ jcs l
theorem jcs_len (L : List (Jb × Value)) : (jcs L).length = L.length * 5 := by
  induction L with
  | nil => rfl
  | cons x l ih => simp only [jcs, List.length_append, ih, Jb.cs, List.length_cons, List.length_nil]; omega
theorem jcs_app (L M : List (Jb × Value)) : jcs (L ++ M) = jcs L ++ jcs M := by
  induction L with
  | nil => rfl
  | cons x l ih => simp only [List.cons_append, jcs, ih, List.append_assoc]
theorem jcs_at : ∀ (L : List (Jb × Value)) (i k : Nat) (x : Jb × Value), L[i]? = some x → k < 5 → (jcs L)[i * 5 + k]? = (x.1.cs x.2)[k]?
  | [], i, k, x, h, _ => by simp at h
  | y :: l, 0, k, x, h, hk => by
    simp at h; subst h
    simp only [jcs, Nat.zero_mul, Nat.zero_add]
    exact List.getElem?_append_left (by simpa [Jb.cs] using hk)
  | y :: l, i + 1, k, x, h, hk => by
    simp at h
    have e : (i + 1) * 5 + k = i * 5 + k + (y.1.cs y.2).length := by simp [Jb.cs]; omega
    simp only [jcs]
    rw [e, List.getElem?_append_right (by omega), Nat.add_sub_cancel]
    exact jcs_at l i k x h hk
theorem jcs_set : ∀ (L : List (Jb × Value)) (i k : Nat) (x y : Jb × Value) (u : Value), L[i]? = some x → k < 5 → (x.1.cs x.2).set k u = y.1.cs y.2 → (jcs L).set (i * 5 + k) u = jcs (L.set i y)
  | [], i, k, x, y, u, h, _, _ => by simp at h
  | z :: l, 0, k, x, y, u, h, hk, hu => by
    simp at h; subst h
    simp only [jcs, Nat.zero_mul, Nat.zero_add, List.set_cons_zero]
    rw [List.set_append_left _ _ (by simpa [Jb.cs] using hk), hu]
  | z :: l, i + 1, k, x, y, u, h, hk, hu => by
    simp at h
    have e : (i + 1) * 5 + k = i * 5 + k + (z.1.cs z.2).length := by simp [Jb.cs]; omega
    simp only [jcs, List.set_cons_succ]
    rw [e, List.set_append_right _ _ (by omega), Nat.add_sub_cancel, jcs_set l i k x y u h hk hu]
/-- the cells of texts -/
def tcs (l : List ByteArray) : List Value := l.map .string
theorem tcs_len (l : List ByteArray) : (tcs l).length = l.length * 1 := by simp [tcs]
theorem tcs_append (l m : List ByteArray) : tcs (l ++ m) = tcs l ++ tcs m := by simp [tcs]
theorem tcs_ones (l : List ByteArray) : ∀ u ∈ tcs l, u.oneCell' = true := by
  intro u hu
  obtain ⟨x, _, rfl⟩ := List.mem_map.1 hu
  rfl
theorem tcs_get {l : List ByteArray} {j : Nat} {u : Value} (h : (tcs l)[j]? = some u) : j < l.length ∧ u = .string l[j]! := by
  have hl : j < (tcs l).length := (List.getElem?_eq_some_iff.1 h).1
  rw [tcs_len, Nat.mul_one] at hl
  refine ⟨hl, ?_⟩
  unfold tcs at h
  rw [List.getElem?_map, List.getElem?_eq_getElem hl] at h
  rw [getElem!_pos l j hl]
  exact (Option.some.inj h).symm
/-- texts in memory -/
structure Tx (w : World) (v : Value) (l : List ByteArray) : Prop where
  form : ∃ p cap, v = .slice p l.length cap ∧ l.length ≤ cap ∧ (p = none → l.length = 0) ∧ ∀ a, p = some a → 0 < l.length → ∃ b off, a = ⟨b, off, none⟩ ∧ b < w.heap.size ∧ ∀ j, j < l.length → w.cell? ⟨b, off + j, none⟩ = some (.string l[j]!)
theorem Tx.below {w w' : World} {v : Value} {l : List ByteArray} (h : Tx w v l) (hb : Below w.heap.size w w') : Tx w' v l := by
  obtain ⟨p, cap, hv, hc, hn, h2⟩ := h
  refine ⟨p, cap, hv, hc, hn, fun a ha h0 => ?_⟩
  obtain ⟨b, off, hp, hlt, hc⟩ := h2 a ha h0
  exact ⟨b, off, hp, Nat.lt_of_lt_of_le hlt hb.size, fun j hj => (hb.cell (p := ⟨b, off + j, none⟩) hlt).trans (hc j hj)⟩
theorem Tx.nil (w : World) : Tx w (.slice none 0 0) [] := ⟨none, 0, rfl, Nat.le_refl _, fun _ => rfl, fun a h => by cases h⟩
theorem Tx.at {w : World} {p : Option Addr} {n cap : Nat} {l : List ByteArray} (h : Tx w (.slice p n cap) l) (h0 : 0 < l.length) : ∃ b off, p = some ⟨b, off, none⟩ ∧ b < w.heap.size ∧ ∀ j, j < l.length → w.cell? ⟨b, off + j, none⟩ = some (.string l[j]!) := by
  obtain ⟨p', cap', hv, hc, hn, h2⟩ := h
  injection hv with e1 e2 e3
  subst e1
  cases p with
  | none => have := hn rfl; omega
  | some a =>
    obtain ⟨b, off, rfl, h3, h4⟩ := h2 a rfl h0
    exact ⟨b, off, rfl, h3, h4⟩
theorem Tx.shape {w : World} {v : Value} {l : List ByteArray} (h : Tx w v l) : ∃ p cap, v = .slice p l.length cap ∧ l.length ≤ cap := by
  obtain ⟨p, cap, hv, hc, _⟩ := h
  exact ⟨p, cap, hv, hc⟩
theorem tx_own {w : World} {base : Nat} {t : Value} {l : List ByteArray} (h : w.ownsRow base 9 1 t l.length (tcs l)) : Tx w t l := by
  rcases h.2 with ⟨rfl, h0⟩ | ⟨g, cap, cur, rfl, _, hg, hc, _⟩
  · rw [List.length_eq_zero_iff.1 h0]; exact Tx.nil w
  · refine ⟨some ⟨g, 0, none⟩, cap, rfl, hc, fun e => (by cases e), fun a ha _ => ⟨g, 0, by injection ha with ha; exact ha.symm, lt_of_block hg, fun j hj => ?_⟩⟩
    have := h.cells (g := g) rfl j (.string l[j]!) (by unfold tcs; rw [List.getElem?_map, List.getElem?_eq_getElem hj, getElem!_pos l j hj]; rfl)
    rw [Addr.add_lit, Nat.zero_add] at this
    rw [Nat.zero_add]; exact this
theorem tx_src {w : World} {t : Value} {l : List ByteArray} (h : Tx w t l) : ∃ p cap, t = .slice p l.length cap ∧ (p = none → l.length = 0) ∧ ∀ a0, p = some a0 → ∀ j u, (tcs l)[j]? = some u → w.cell? (a0.add j) = some u := by
  obtain ⟨p, cap, rfl, _, hn, h2⟩ := h
  refine ⟨p, cap, rfl, hn, fun a0 ha j u hu => ?_⟩
  obtain ⟨hj, rfl⟩ := tcs_get hu
  obtain ⟨b, off, rfl, _, hc⟩ := h2 a0 ha (by omega)
  rw [Addr.add_lit]
  exact hc j hj
theorem Tx.cut {w : World} {p : Option Addr} {n cap : Nat} {l : List ByteArray} (h : Tx w (.slice p n cap) l) {k : Nat} (hk : k ≤ l.length) : Tx w (.slice p k cap) (l.take k) := by
  obtain ⟨p', cap', hv, hc, hn, h2⟩ := h
  injection hv with e1 e2 e3
  subst e1; subst e3
  have hl : (l.take k).length = k := by rw [List.length_take]; omega
  refine ⟨p, cap, by rw [hl], by omega, fun e => by have := hn e; omega, fun a ha h0 => ?_⟩
  obtain ⟨b, off, e, h3, h4⟩ := h2 a ha (by omega)
  refine ⟨b, off, e, h3, fun j hj => ?_⟩
  rw [h4 j (by omega), getElem!_pos l j (by omega), getElem!_pos (l.take k) j hj, List.getElem_take]

/-- the three kinds of maps -/
def KS : Mk (Int × Int) ByteArray := ⟨69, 103, 100, .agg #[.string ByteArray.empty], fun a => .agg #[.int .i64 a.1, .int .i64 a.2], fun b => .agg #[.string b], fun a => i64 a.1 ∧ i64 a.2⟩
def KV : Mk (Int × Int × Int × Int) Int := ⟨70, 94, 3, .int .i64 0, fun a => .agg #[.int .i64 a.1, .int .i64 a.2.1, .int .i64 a.2.2.1, .int .u64 a.2.2.2], fun n => .int .i64 n, fun a => i64 a.1 ∧ i64 a.2.1 ∧ i64 a.2.2.1 ∧ u64 a.2.2.2⟩
def KL : Mk (Int × Int × Int) Int := ⟨71, 96, 3, .int .i64 0, fun a => .agg #[.int .i64 a.1, .int .i64 a.2.1, .int .i64 a.2.2], fun n => .int .i64 n, fun a => i64 a.1 ∧ i64 a.2.1 ∧ i64 a.2.2⟩
theorem Try.laidOut : laidOutB Try.prog = true := by kernel_rfl
theorem size_pos : ∃ m, Try.prog.types.size = m + 1 := ⟨Try.prog.types.size - 1, by kernel_rfl⟩
theorem key_in {P : Program} {k : TypeId} {fs : Array Field} {v : Value} {ls : List Lit} {m : Nat} (hu : P.underlying k = some (.struct fs)) (h1 : P.keyType k = true) (h2 : v.formed P k = true) (hm : P.types.size = m + 1) (h3 : P.keyLits (m + 2) k v.cells.toList = some ls) : ∃ l, keyOf P k v = some l := by
  refine ⟨.string (keyBytes ls), ?_⟩
  unfold keyOf
  simp only [hu]
  rw [if_pos (by simp [h1, h2]), hm, h3]
  rfl
theorem lits_int {P : Program} {m : Nat} {t : TypeId} {q : IntKind} (hu : P.underlying t = some (.int q)) {a : Int} (ha : (Lit.int q a).wf = true) : P.keyLits (m + 1) t [.int q a] = some [.int q a] := by
  unfold Program.keyLits
  simp [hu, ha]
theorem lits_struct {P : Program} {m : Nat} {k : TypeId} {fs : Array Field} {cs : List Value} {lss : List (List Lit)} (hu : P.underlying k = some (.struct fs)) (h1 : cs.length = P.cellsOf k) (h2 : fs.all (·.name != "_") = true)
    (h3 : (fs.toList.mapM fun f => P.keyLits m f.type ((cs.drop f.offset).take (P.cellsOf f.type))) = some lss) : P.keyLits (m + 1) k cs = some lss.flatten := by
  unfold Program.keyLits
  simp only [hu]
  rw [if_pos ⟨h1, h2⟩, h3]
  rfl
theorem Try.cellsI1 : Try.prog.cellsOf 3 = 1 := by kernel_rfl
theorem Try.cellsU1 : Try.prog.cellsOf 38 = 1 := by kernel_rfl
theorem Try.cellsR2 : Try.prog.cellsOf 40 = 2 := by kernel_rfl
theorem size_3 : ∃ m, Try.prog.types.size = m + 3 := ⟨Try.prog.types.size - 3, by kernel_rfl⟩
theorem KS_good : KS.Good Try.prog where
  ht := Try.underlying69
  law := deep_law_laid Try.laidOut (m := 4) (by omega) (by decide) (by kernel_rfl) (by kernel_rfl)
  hk := fun a ha => by
    obtain ⟨m, hm⟩ := size_pos
    refine key_in Try.underlying103 (by kernel_rfl) (by kernel_rfl) hm (lits_struct (cs := [.int .i64 a.1, .int .i64 a.2]) (lss := [[.int .i64 a.1], [.int .i64 a.2]]) Try.underlying103 (by kernel_rfl) (by kernel_rfl) ?_)
    have q1 := lits_int (m := m) Try.underlying3 ha.1
    have q2 := lits_int (m := m) Try.underlying3 ha.2
    simp [Try.cellsI1, q1, q2]
  inj := fun a b h => by
    simp [KS] at h
    exact Prod.ext h.1 h.2
  hz := fun w => by kernel_rfl
theorem KL_good : KL.Good Try.prog where
  ht := Try.underlying71
  law := deep_law_laid Try.laidOut (m := 4) (by omega) (by decide) (by kernel_rfl) (by kernel_rfl)
  hk := fun a ha => by
    obtain ⟨m, hm⟩ := size_pos
    refine key_in Try.underlying96 (by kernel_rfl) (by kernel_rfl) hm (lits_struct (cs := [.int .i64 a.1, .int .i64 a.2.1, .int .i64 a.2.2]) (lss := [[.int .i64 a.1], [.int .i64 a.2.1], [.int .i64 a.2.2]]) Try.underlying96 (by kernel_rfl) (by kernel_rfl) ?_)
    have q1 := lits_int (m := m) Try.underlying3 ha.1
    have q2 := lits_int (m := m) Try.underlying3 ha.2.1
    have q3 := lits_int (m := m) Try.underlying3 ha.2.2
    simp [Try.cellsI1, q1, q2, q3]
  inj := fun a b h => by
    simp [KL] at h
    exact Prod.ext h.1 (Prod.ext h.2.1 h.2.2)
  hz := fun w => by kernel_rfl
theorem KV_good : KV.Good Try.prog where
  ht := Try.underlying70
  law := deep_law_laid Try.laidOut (m := 4) (by omega) (by decide) (by kernel_rfl) (by kernel_rfl)
  hk := fun a ha => by
    obtain ⟨m, hm⟩ := size_3
    have q1 := lits_int (m := m + 2) Try.underlying3 ha.1
    have q2 := lits_int (m := m + 2) Try.underlying3 ha.2.1
    have q3 := lits_int (m := m + 1) Try.underlying3 ha.2.2.1
    have q4 := lits_int (m := m + 1) Try.underlying38 ha.2.2.2
    have qr : Try.prog.keyLits (m + 3) 40 [.int .i64 a.2.2.1, .int .u64 a.2.2.2] = some ([[.int .i64 a.2.2.1], [.int .u64 a.2.2.2]] : List (List Lit)).flatten := by
      refine lits_struct Try.underlying40 (by kernel_rfl) (by kernel_rfl) ?_
      simp [Try.cellsI1, Try.cellsU1, q3, q4]
    refine key_in Try.underlying94 (by kernel_rfl) (by kernel_rfl) (m := m + 2) hm (lits_struct (m := m + 3) (cs := [.int .i64 a.1, .int .i64 a.2.1, .int .i64 a.2.2.1, .int .u64 a.2.2.2]) (lss := [[.int .i64 a.1], [.int .i64 a.2.1], [.int .i64 a.2.2.1, .int .u64 a.2.2.2]]) Try.underlying94 (by kernel_rfl) (by kernel_rfl) ?_)
    have qr' : Try.prog.keyLits (m + 3) 40 [.int .i64 a.2.2.1, .int .u64 a.2.2.2] = some [.int .i64 a.2.2.1, .int .u64 a.2.2.2] := qr
    simp [Try.cellsI1, Try.cellsR2, q1, q2, qr']
  inj := fun a b h => by
    simp [KV] at h
    exact Prod.ext h.1 (Prod.ext h.2.1 (Prod.ext h.2.2.1 h.2.2.2))
  hz := fun w => by kernel_rfl
end Go.Proofs.Ytjfgmdiafhkbgaa
