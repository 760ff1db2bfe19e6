import Derived.Test.YtjfgmdiafhkbgaaAuF
namespace Go.Proofs.Ytjfgmdiafhkbgaa
open Go.RowKit Go.MapKept
set_option maxRecDepth 8000

theorem cut_any (W : World) (p : Option Addr) (n N cap : Nat) (h : n ≤ cap) : (Instr.slice 41 (.slice p N cap) none (some (.int .i64 (n : Int))) none).run Try.prog W = .ok (.slice p n cap) W := by
  have hi : (n : Int) ≤ (cap : Int) := by omega
  rw [run_slice_h (P := Try.prog) W 41 p N cap (by simp [Program.elem, Try.underlying41]) .i64 (n : Int) (by omega) hi]
  have e : Try.prog.elem 41 = 9 := by simp [Program.elem, Try.underlying41]
  rw [e]
  cases p with
  | none => go_simp
  | some a => go_simp
theorem cut_anyAt (W : World) (p : Option Addr) (n N cap : Nat) (h : n ≤ cap) : (Instr.sliceAt 41 (.slice p N cap) none (some (.int .i64 (n : Int))) none).run Try.prog W = .ok (.slice p n cap) W := by
  rw [run_sliceAt_slice (P := Try.prog) W 41 _ _ _ _ (by simp [Program.elem, Try.underlying41]), cut_any W p n N cap h]
def bgn (t o : List ByteArray) : Bool := decide (t.length ≤ o.length) && decide (t = o.take t.length)
theorem begins_any {w : World} {u v : Value} {l m : List ByteArray} (hu : Tx w u l) (hv : Tx w v m) (hl : l.length ≤ 1099511627776) :
    Calls Try.prog 77 #[u, v] w fun e w' => e = .returned (.bool (bgn l m)) ∧ Below w.heap.size w w' := by
  obtain ⟨p, cap, rfl, _⟩ := hu.shape
  obtain ⟨q, cq, rfl, hq⟩ := hv.shape
  unfold bgn
  by_cases hle : l.length ≤ m.length
  · rw [decide_eq_true hle, Bool.true_and]
    have HC := hide (equal_any hu (hv.cut hle) hl)
    have hcut := cut_any w q l.length m.length cq (by omega)
    have hcut2 := cut_anyAt w q l.length m.length cq (by omega)
    have ll : (l.length : Int) ≤ (m.length : Int) := by omega
    clear hu hv
    go_enter Try.func77, Try.ntmps77
    go_wp2_with fail
    refine HC.out.mono ?_
    rintro e w1 ⟨rfl, hb⟩
    have HB := hide hb
    clear hb
    go_wp2_with fail
    go_ret
    exact ⟨rfl, HB.out⟩
  · rw [decide_eq_false hle, Bool.false_and]
    have ll : ¬ (l.length : Int) ≤ (m.length : Int) := by omega
    clear hu hv
    go_enter Try.func77, Try.ntmps77
    go_wp2_with fail
    go_ret
    exact ⟨rfl, Below.refl _ _⟩
theorem eql_res (a b : Int) (m n : Int) (w : World) : (binOp .eql 40 (.agg #[.int .i64 a, .int .u64 m]) (.agg #[.int .i64 b, .int .u64 n])).run Try.prog w = .ok (.bool (decide (a = b ∧ m = n))) w := by
  have : (Op.equalIn 10000 40 (.agg #[.int .i64 a, .int .u64 m]) (.agg #[.int .i64 b, .int .u64 n])).run Try.prog w = .ok (decide (a = b ∧ m = n)) w := by
    go_simp
    by_cases e : a = b ∧ m = n
    · obtain ⟨rfl, rfl⟩ := e; simp
    · by_cases h1 : a = b
      · have h2 : ¬ m = n := fun h => e ⟨h1, h⟩
        simp [h1, h2]
      · simp [h1]
  rw [run_eql_struct, this]; rfl
theorem neq_res (a b : Int) (m n : Int) (w : World) : (binOp .neq 40 (.agg #[.int .i64 a, .int .u64 m]) (.agg #[.int .i64 b, .int .u64 n])).run Try.prog w = .ok (.bool (!decide (a = b ∧ m = n))) w := by
  have : (Op.equalIn 10000 40 (.agg #[.int .i64 a, .int .u64 m]) (.agg #[.int .i64 b, .int .u64 n])).run Try.prog w = .ok (decide (a = b ∧ m = n)) w := by
    go_simp
    by_cases e : a = b ∧ m = n
    · obtain ⟨rfl, rfl⟩ := e; simp
    · by_cases h1 : a = b
      · have h2 : ¬ m = n := fun h => e ⟨h1, h⟩
        simp [h1, h2]
      · simp [h1]
  rw [run_neq_struct, this]; rfl
/-- without a result, without texts? -/
def bare (e : Ev) : Bool := decide (e.rt = 0 ∧ e.rb = 0) && ((e.ts.length : Int) == 0)
theorem bare_any {w : World} {e : Ev} {t : Value} (ht : Tx w t e.ts) : Calls Try.prog 75 #[e.v t] w fun r w' => r = .returned (.bool (bare e)) ∧ Below w.heap.size w w' := by
  unfold bare
  have heq := eql_res e.rt 0 e.rb 0
  obtain ⟨q, cq, rfl, _⟩ := ht.shape
  clear ht
  obtain ⟨ek, eo, en, el, ej, eb, ei, ec, es, er, ew, ex, et⟩ := e
  dsimp only [Ev.v] at heq ⊢
  by_cases h1 : er = 0 ∧ ew = 0
  · rw [decide_eq_true h1] at heq
    rw [decide_eq_true h1, Bool.true_and]
    clear h1
    go_enter Try.func75, Try.ntmps75
    go_wp2_with fail
    go_ret
    exact ⟨rfl, below_alloc _ _⟩
  · rw [decide_eq_false h1] at heq
    rw [decide_eq_false h1, Bool.false_and]
    clear h1
    go_enter Try.func75, Try.ntmps75
    go_wp2_with fail
    go_ret
    exact ⟨rfl, below_alloc _ _⟩
/-- shown as it is known? -/
def shS (j : Jb) (e : Ev) : Bool := (j.st == e.st) && ((j.ba == e.ba) && (decide (j.rt = e.rt ∧ j.rb = e.rb) && (decide (j.lg = e.ts) || ((j.st == 2) && bgn j.lg e.ts))))
set_option maxHeartbeats 1000000 in
theorem same_any {w : World} {j : Jb} {e : Ev} {u t : Value} (hu : Tx w u j.lg) (hv : Tx w t e.ts) (hl : j.lg.length ≤ 1099511627776) : Calls Try.prog 72 #[j.v u, e.v t] w fun r w' => r = .returned (.bool (shS j e)) ∧ Below w.heap.size w w' := by
  obtain ⟨p, cp, rfl, _⟩ := hu.shape
  obtain ⟨q, cq, rfl, _⟩ := hv.shape
  obtain ⟨js, jb, jr, jw, jl⟩ := j
  obtain ⟨ek, eo, en, el, ej, eb, ei, ec, es, er, ew, ex, et⟩ := e
  dsimp only at hu hv hl
  dsimp only [Ev.v, Jb.v]
  have HB : Hid (Below w.heap.size w ((w.alloc (.cells #[.int .i64 js, .int .i64 jb, .int .i64 jr, .int .u64 jw, .slice p jl.length cp] 87)).alloc (.cells #[.int .i64 ek, .int .i64 eo, .int .i64 en, .int .i64 el, .int .i64 ej, .int .i64 eb, .int .i64 ei, .int .i64 ec, .int .i64 es, .int .i64 er, .int .u64 ew, .string ex, .slice q et.length cq] 43))) := hide (below_of (below_alloc _ _) (below_alloc _ _))
  have HC := hide (equal_any (hu.below HB.out) (hv.below HB.out) hl)
  have hD : ∀ w1, Below w.heap.size w w1 → Calls Try.prog 77 #[.slice p jl.length cp, .slice q et.length cq] w1 fun e w' => e = .returned (.bool (bgn jl et)) ∧ Below w1.heap.size w1 w' := fun w1 hb => begins_any (hu.below hb) (hv.below hb) hl
  have hev : ∀ w1, Below (((w.alloc (.cells #[.int .i64 js, .int .i64 jb, .int .i64 jr, .int .u64 jw, .slice p jl.length cp] 87)).alloc (.cells #[.int .i64 ek, .int .i64 eo, .int .i64 en, .int .i64 el, .int .i64 ej, .int .i64 eb, .int .i64 ei, .int .i64 ec, .int .i64 es, .int .i64 er, .int .u64 ew, .string ex, .slice q et.length cq] 43))).heap.size ((w.alloc (.cells #[.int .i64 js, .int .i64 jb, .int .i64 jr, .int .u64 jw, .slice p jl.length cp] 87)).alloc (.cells #[.int .i64 ek, .int .i64 eo, .int .i64 en, .int .i64 el, .int .i64 ej, .int .i64 eb, .int .i64 ei, .int .i64 ec, .int .i64 es, .int .i64 er, .int .u64 ew, .string ex, .slice q et.length cq] 43)) w1 → w1.heap[w.heap.size]? = some (.cells #[.int .i64 js, .int .i64 jb, .int .i64 jr, .int .u64 jw, .slice p jl.length cp] 87 (0, 0)) ∧ w1.heap[w.heap.size + 1]? = some (.cells #[.int .i64 ek, .int .i64 eo, .int .i64 en, .int .i64 el, .int .i64 ej, .int .i64 eb, .int .i64 ei, .int .i64 ec, .int .i64 es, .int .i64 er, .int .u64 ew, .string ex, .slice q et.length cq] 43 (0, 0)) := fun w1 hb => by
    have h1 := heap_alloc_new (w.alloc (.cells #[.int .i64 js, .int .i64 jb, .int .i64 jr, .int .u64 jw, .slice p jl.length cp] 87)) (.cells #[.int .i64 ek, .int .i64 eo, .int .i64 en, .int .i64 el, .int .i64 ej, .int .i64 eb, .int .i64 ei, .int .i64 ec, .int .i64 es, .int .i64 er, .int .u64 ew, .string ex, .slice q et.length cq] 43)
    rw [World.size_alloc] at h1
    have h2 := heap_alloc_new w (.cells #[.int .i64 js, .int .i64 jb, .int .i64 jr, .int .u64 jw, .slice p jl.length cp] 87)
    have h3 := (Below.heap_alloc (w.alloc (.cells #[.int .i64 js, .int .i64 jb, .int .i64 jr, .int .u64 jw, .slice p jl.length cp] 87)) (.cells #[.int .i64 ek, .int .i64 eo, .int .i64 en, .int .i64 el, .int .i64 ej, .int .i64 eb, .int .i64 ei, .int .i64 ec, .int .i64 es, .int .i64 er, .int .u64 ew, .string ex, .slice q et.length cq] 43) _ (lt_of_block h2)).trans h2
    exact ⟨(hb.block _ (lt_of_block h3)).trans h3, (hb.block _ (lt_of_block h1)).trans h1⟩
  have HE := hide hev
  have HD := hide hD
  have heq := neq_res jr er jw ew
  unfold shS
  dsimp only
  generalize decide (jl = et) = d1 at *
  generalize bgn jl et = d2 at *
  clear hu hv hl hD hev
  cases h1 : (js == es) with
  | false =>
    have t1 : (js != es) = true := by simp [bne, h1]
    rw [Bool.false_and]
    clear heq
    go_enter Try.func72, Try.ntmps72
    go_wp2_with fail
    go_ret
    exact ⟨rfl, HB.out⟩
  | true =>
  have t1 : (js != es) = false := by simp [bne, h1]
  cases h2 : (jb == eb) with
  | false =>
    have t2 : (jb != eb) = true := by simp [bne, h2]
    rw [Bool.true_and, Bool.false_and]
    clear heq
    go_enter Try.func72, Try.ntmps72
    go_wp2_with fail
    go_ret
    exact ⟨rfl, HB.out⟩
  | true =>
  have t2 : (jb != eb) = false := by simp [bne, h2]
  rw [Bool.true_and, Bool.true_and]
  clear h1 h2
  generalize decide (jr = er ∧ jw = ew) = d3 at *
  cases d3 with
  | false =>
    rw [Bool.false_and]
    go_enter Try.func72, Try.ntmps72
    go_wp2_with fail
    go_ret
    exact ⟨rfl, HB.out⟩
  | true =>
  rw [Bool.true_and]
  cases d1 with
  | true =>
    rw [Bool.true_or]
    go_enter Try.func72, Try.ntmps72
    go_wp2_with fail
    refine HC.out.mono ?_
    rintro e w1 ⟨rfl, hb⟩
    have HB1 := hide (below_of HB.out hb)
    clear hb
    go_wp2_with fail
    go_ret
    exact ⟨rfl, HB1.out⟩
  | false =>
  rw [Bool.false_or]
  cases h3 : (js == 2) with
  | false =>
    rw [Bool.false_and]
    go_enter Try.func72, Try.ntmps72
    go_wp2_with fail
    refine HC.out.mono ?_
    rintro e w1 ⟨rfl, hb⟩
    have k0 : w1.cell? ⟨w.heap.size, 0, none⟩ = some (.int .i64 js) := by simp [World.cell?, (HE.out w1 hb).1]
    have k4 : w1.cell? ⟨w.heap.size, 4, none⟩ = some (.slice p jl.length cp) := by simp [World.cell?, (HE.out w1 hb).1]
    have k12 : w1.cell? ⟨w.heap.size + 1, 12, none⟩ = some (.slice q et.length cq) := by simp [World.cell?, (HE.out w1 hb).2]
    have HB1 := hide (below_of HB.out hb)
    clear hb
    go_wp2_with fail
    go_ret
    exact ⟨rfl, HB1.out⟩
  | true =>
    rw [Bool.true_and]
    go_enter Try.func72, Try.ntmps72
    go_wp2_with fail
    refine HC.out.mono ?_
    rintro e w1 ⟨rfl, hb⟩
    have k0 : w1.cell? ⟨w.heap.size, 0, none⟩ = some (.int .i64 js) := by simp [World.cell?, (HE.out w1 hb).1]
    have k4 : w1.cell? ⟨w.heap.size, 4, none⟩ = some (.slice p jl.length cp) := by simp [World.cell?, (HE.out w1 hb).1]
    have k12 : w1.cell? ⟨w.heap.size + 1, 12, none⟩ = some (.slice q et.length cq) := by simp [World.cell?, (HE.out w1 hb).2]
    have HB1 := hide (below_of HB.out hb)
    clear hb
    have HD1 := hide (HD.out w1 HB1.out)
    go_wp2_with fail
    refine HD1.out.mono ?_
    rintro e w2 ⟨rfl, hb⟩
    have HB2 := hide (below_of HB1.out hb)
    clear hb
    go_wp2_with fail
    go_ret
    exact ⟨rfl, HB2.out⟩

/-- has its attempt come to its end? -/
def shB (j : Jb) (e : Ev) : Bool := (j.st == 2) && ((j.ba == e.ba) && (decide (j.lg = e.ts) && ((e.st == 3) || (((e.st == 1) || (e.st == 4)) && decide (e.rt = 0 ∧ e.rb = 0)))))
set_option maxHeartbeats 1000000 in
theorem behind_any {w : World} {j : Jb} {e : Ev} {u t : Value} (hu : Tx w u j.lg) (hv : Tx w t e.ts) (hl : j.lg.length ≤ 1099511627776) : Calls Try.prog 73 #[j.v u, e.v t] w fun r w' => r = .returned (.bool (shB j e)) ∧ Below w.heap.size w w' := by
  obtain ⟨p, cp, rfl, _⟩ := hu.shape
  obtain ⟨q, cq, rfl, _⟩ := hv.shape
  obtain ⟨js, jb, jr, jw, jl⟩ := j
  obtain ⟨ek, eo, en, el, ej, eb, ei, ec, es, er, ew, ex, et⟩ := e
  dsimp only at hu hv hl
  dsimp only [Ev.v, Jb.v]
  have HB : Hid (Below w.heap.size w ((w.alloc (.cells #[.int .i64 js, .int .i64 jb, .int .i64 jr, .int .u64 jw, .slice p jl.length cp] 87)).alloc (.cells #[.int .i64 ek, .int .i64 eo, .int .i64 en, .int .i64 el, .int .i64 ej, .int .i64 eb, .int .i64 ei, .int .i64 ec, .int .i64 es, .int .i64 er, .int .u64 ew, .string ex, .slice q et.length cq] 43))) := hide (below_of (below_alloc _ _) (below_alloc _ _))
  have HC := hide (equal_any (hu.below HB.out) (hv.below HB.out) hl)
  have hev : ∀ w1, Below (((w.alloc (.cells #[.int .i64 js, .int .i64 jb, .int .i64 jr, .int .u64 jw, .slice p jl.length cp] 87)).alloc (.cells #[.int .i64 ek, .int .i64 eo, .int .i64 en, .int .i64 el, .int .i64 ej, .int .i64 eb, .int .i64 ei, .int .i64 ec, .int .i64 es, .int .i64 er, .int .u64 ew, .string ex, .slice q et.length cq] 43))).heap.size ((w.alloc (.cells #[.int .i64 js, .int .i64 jb, .int .i64 jr, .int .u64 jw, .slice p jl.length cp] 87)).alloc (.cells #[.int .i64 ek, .int .i64 eo, .int .i64 en, .int .i64 el, .int .i64 ej, .int .i64 eb, .int .i64 ei, .int .i64 ec, .int .i64 es, .int .i64 er, .int .u64 ew, .string ex, .slice q et.length cq] 43)) w1 → w1.heap[w.heap.size + 1]? = some (.cells #[.int .i64 ek, .int .i64 eo, .int .i64 en, .int .i64 el, .int .i64 ej, .int .i64 eb, .int .i64 ei, .int .i64 ec, .int .i64 es, .int .i64 er, .int .u64 ew, .string ex, .slice q et.length cq] 43 (0, 0)) := fun w1 hb => by
    have h1 := heap_alloc_new (w.alloc (.cells #[.int .i64 js, .int .i64 jb, .int .i64 jr, .int .u64 jw, .slice p jl.length cp] 87)) (.cells #[.int .i64 ek, .int .i64 eo, .int .i64 en, .int .i64 el, .int .i64 ej, .int .i64 eb, .int .i64 ei, .int .i64 ec, .int .i64 es, .int .i64 er, .int .u64 ew, .string ex, .slice q et.length cq] 43)
    rw [World.size_alloc] at h1
    exact (hb.block _ (lt_of_block h1)).trans h1
  have HE := hide hev
  have heq := eql_res er 0 ew 0
  unfold shB
  dsimp only
  generalize decide (jl = et) = d1 at *
  clear hu hv hl hev
  cases h1 : (js == 2) with
  | false =>
    have t1 : (js != 2) = true := by simp [bne, h1]
    rw [Bool.false_and]
    clear heq
    go_enter Try.func73, Try.ntmps73
    go_wp2_with fail
    go_ret
    exact ⟨rfl, HB.out⟩
  | true =>
  have t1 : (js != 2) = false := by simp [bne, h1]
  cases h2 : (jb == eb) with
  | false =>
    have t2 : (jb != eb) = true := by simp [bne, h2]
    rw [Bool.true_and, Bool.false_and]
    clear heq
    go_enter Try.func73, Try.ntmps73
    go_wp2_with fail
    go_ret
    exact ⟨rfl, HB.out⟩
  | true =>
  have t2 : (jb != eb) = false := by simp [bne, h2]
  rw [Bool.true_and, Bool.true_and]
  clear h1 h2
  cases d1 with
  | false =>
    rw [Bool.false_and]
    go_enter Try.func73, Try.ntmps73
    go_wp2_with fail
    refine HC.out.mono ?_
    rintro e w1 ⟨rfl, hb⟩
    have HB1 := hide (below_of HB.out hb)
    clear hb
    go_wp2_with fail
    go_ret
    exact ⟨rfl, HB1.out⟩
  | true =>
  rw [Bool.true_and]
  cases h3 : (es == 3) with
  | true =>
    rw [Bool.true_or]
    go_enter Try.func73, Try.ntmps73
    go_wp2_with fail
    refine HC.out.mono ?_
    rintro e w1 ⟨rfl, hb⟩
    have k7 : w1.cell? ⟨w.heap.size + 1, 8, none⟩ = some (.int .i64 es) := by simp [World.cell?, HE.out w1 hb]
    have HB1 := hide (below_of HB.out hb)
    clear hb
    go_wp2_with fail
    go_ret
    exact ⟨rfl, HB1.out⟩
  | false =>
  rw [Bool.false_or]
  cases h4 : (es == 1) with
  | true =>
    rw [Bool.true_or, Bool.true_and]
    generalize decide (er = 0 ∧ ew = 0) = d3 at *
    go_enter Try.func73, Try.ntmps73
    go_wp2_with fail
    refine HC.out.mono ?_
    rintro e w1 ⟨rfl, hb⟩
    have k7 : w1.cell? ⟨w.heap.size + 1, 8, none⟩ = some (.int .i64 es) := by simp [World.cell?, HE.out w1 hb]
    have k8 : w1.cell? ⟨w.heap.size + 1, 9, none⟩ = some (.int .i64 er) := by simp [World.cell?, HE.out w1 hb]
    have k9 : w1.cell? ⟨w.heap.size + 1, 10, none⟩ = some (.int .u64 ew) := by simp [World.cell?, HE.out w1 hb]
    have HB1 := hide (below_of HB.out hb)
    clear hb
    go_wp2_with fail
    go_ret
    exact ⟨rfl, HB1.out⟩
  | false =>
  rw [Bool.false_or]
  cases h5 : (es == 4) with
  | true =>
    rw [Bool.true_and]
    generalize decide (er = 0 ∧ ew = 0) = d3 at *
    go_enter Try.func73, Try.ntmps73
    go_wp2_with fail
    refine HC.out.mono ?_
    rintro e w1 ⟨rfl, hb⟩
    have k7 : w1.cell? ⟨w.heap.size + 1, 8, none⟩ = some (.int .i64 es) := by simp [World.cell?, HE.out w1 hb]
    have k8 : w1.cell? ⟨w.heap.size + 1, 9, none⟩ = some (.int .i64 er) := by simp [World.cell?, HE.out w1 hb]
    have k9 : w1.cell? ⟨w.heap.size + 1, 10, none⟩ = some (.int .u64 ew) := by simp [World.cell?, HE.out w1 hb]
    have HB1 := hide (below_of HB.out hb)
    clear hb
    go_wp2_with fail
    go_ret
    exact ⟨rfl, HB1.out⟩
  | false =>
    rw [Bool.false_and]
    go_enter Try.func73, Try.ntmps73
    go_wp2_with fail
    refine HC.out.mono ?_
    rintro e w1 ⟨rfl, hb⟩
    have k7 : w1.cell? ⟨w.heap.size + 1, 8, none⟩ = some (.int .i64 es) := by simp [World.cell?, HE.out w1 hb]
    have HB1 := hide (below_of HB.out hb)
    clear hb
    go_wp2_with fail
    go_ret
    exact ⟨rfl, HB1.out⟩

/-- has its next attempt begun? -/
def shG (j : Jb) (e : Ev) (top : Int) : Bool := (j.st == 1) && ((e.st == 2) && (decide (top < e.ba) && bare e))
set_option maxHeartbeats 1000000 in
theorem grant_any {w : World} {j : Jb} {e : Ev} {u t : Value} (hu : Tx w u j.lg) (hv : Tx w t e.ts) (top : Int) : Calls Try.prog 74 #[j.v u, e.v t, .int .i64 top] w fun r w' => r = .returned (.bool (shG j e top)) ∧ Below w.heap.size w w' := by
  have hl := True.intro
  obtain ⟨p, cp, rfl, _⟩ := hu.shape
  obtain ⟨q, cq, rfl, _⟩ := hv.shape
  obtain ⟨js, jb, jr, jw, jl⟩ := j
  obtain ⟨ek, eo, en, el, ej, eb, ei, ec, es, er, ew, ex, et⟩ := e
  dsimp only at hu hv hl
  dsimp only [Ev.v, Jb.v]
  have HB : Hid (Below w.heap.size w ((w.alloc (.cells #[.int .i64 js, .int .i64 jb, .int .i64 jr, .int .u64 jw, .slice p jl.length cp] 87)).alloc (.cells #[.int .i64 ek, .int .i64 eo, .int .i64 en, .int .i64 el, .int .i64 ej, .int .i64 eb, .int .i64 ei, .int .i64 ec, .int .i64 es, .int .i64 er, .int .u64 ew, .string ex, .slice q et.length cq] 43))) := hide (below_of (below_alloc _ _) (below_alloc _ _))
  have HC := hide (bare_any (hv.below HB.out) (e := ⟨ek, eo, en, el, ej, eb, ei, ec, es, er, ew, ex, et⟩))
  unfold shG
  dsimp only
  generalize bare ⟨ek, eo, en, el, ej, eb, ei, ec, es, er, ew, ex, et⟩ = d1 at *
  clear hu hv hl
  cases h1 : (js == 1) with
  | false =>
    rw [Bool.false_and]
    go_enter Try.func74, Try.ntmps74
    go_wp2_with fail
    go_ret
    exact ⟨rfl, HB.out⟩
  | true =>
  rw [Bool.true_and]
  cases h2 : (es == 2) with
  | false =>
    rw [Bool.false_and]
    go_enter Try.func74, Try.ntmps74
    go_wp2_with fail
    go_ret
    exact ⟨rfl, HB.out⟩
  | true =>
  rw [Bool.true_and]
  cases h3 : decide (top < eb) with
  | false =>
    rw [Bool.false_and]
    go_enter Try.func74, Try.ntmps74
    go_wp2_with fail
    go_ret
    exact ⟨rfl, HB.out⟩
  | true =>
    rw [Bool.true_and]
    go_enter Try.func74, Try.ntmps74
    go_wp2_with fail
    refine HC.out.mono ?_
    rintro e w1 ⟨rfl, hb⟩
    have HB1 := hide (below_of HB.out hb)
    clear hb
    go_wp2_with fail
    go_ret
    exact ⟨rfl, HB1.out⟩
end Go.Proofs.Ytjfgmdiafhkbgaa
