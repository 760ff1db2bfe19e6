import Derived.Test.YtjfgmdiafhkbgaaAuW
import Derived.Test.YtjfgmdiafhkbgaaAuM
import Derived.Test.YtjfgmdiafhkbgaaAuN
import Derived.Test.YtjfgmdiafhkbgaaAuO
import Derived.Test.YtjfgmdiafhkbgaaAuQ
import Derived.Test.YtjfgmdiafhkbgaaAuS
import Derived.Test.YtjfgmdiafhkbgaaAuT
import Derived.Test.YtjfgmdiafhkbgaaAuV
namespace Go.Proofs.Ytjfgmdiafhkbgaa
open Go.RowKit Go.MapKept
set_option maxRecDepth 8000

/-- the rules, by their numbers -/
structure Ru where
  a1 : Bool
  a2 : Bool
  a3 : Bool
  a4 : Bool
  a5 : Bool
  a6 : Bool
  a7 : Bool
  a8 : Bool
abbrev Ru.v (r : Ru) : Value := rul r.a1 r.a2 r.a3 r.a4 r.a5 r.a6 r.a7 r.a8
def ru0 : Ru := ⟨false, false, false, false, false, false, false, false⟩
/-- which an event breaks by its kind -/
def brkA (h : Hs) (e : Ev) (i : Nat) : Ru := if e.k = 2 then (⟨false, false, false, false, false, false, false, !nxt h i⟩) else if e.k = 5 then (⟨false, false, decide (e.ba ≤ h.top), !isS h i 1, false, false, false, false⟩) else if e.k = 6 then (⟨false, false, false, !hld h i e.ba, false, false, false, false⟩) else if e.k = 7 then (⟨stl h i, false, false, !stl h i && !hld h i e.ba, false, false, false, false⟩) else if e.k = 8 then (⟨false, false, false, !hld h i e.ba, hld h i e.ba && ((e.ix != ((jat h i).lg.length : Int)) || !arC h e.ts e.ba e.ix), false, false, false⟩) else if e.k = 9 then (⟨stl h i, !endW h i e.ba e.rt e.rb, false, !stl h i && !hld h i e.ba, false, knw h i && !endA h i e.ba ((jat h i).lg.length : Int), false, false⟩) else if e.k = 13 then (⟨false, false, false, false, false, false, adB h i e.tx e.ba e.ix, false⟩) else if e.k = 14 then (⟨false, (e.st == 3) && !isS h i 3 && !endW h i e.ba e.rt e.rb, false, false, !arC h e.ts e.ba 0, (e.st == 3) && !isS h i 3 && !endA h i e.ba e.ts.length, false, !mbs h e i⟩) else ru0
/-- what is known behind it -/
def bhdA (h : Hs) (e : Ev) (i : Nat) : Hs := if e.k = 2 then (if nxt h i = true then lt_ h i ⟨1, 0, 0, 0, []⟩ else h) else if e.k = 4 then (if e.wn = 0 ∧ e.wl = 0 then { h with sh := true, up := 0 } else h) else if e.k = 5 then ({ (if knw h i = true then lt_ h i ⟨2, e.ba, 0, 0, []⟩ else h) with top := max h.top e.ba }) else if e.k = 6 then (if hld h i e.ba = true then { h with jobs := h.jobs.set i { jat h i with st := 1 } } else h) else if e.k = 7 then (if hld h i e.ba = true then { h with jobs := h.jobs.set i { jat h i with st := 4 } } else h) else if e.k = 8 then (if hld h i e.ba = true then { h with jobs := h.jobs.set i { jat h i with lg := (jat h i).lg ++ e.ts } } else h) else if e.k = 9 then (if hld h i e.ba = true then { h with jobs := h.jobs.set i { jat h i with st := 3, rt := e.rt, rb := e.rb } } else h) else if e.k = 10 then ({ h with ch := kfs h.ch (e.ba, e.ix) e.tx }) else if e.k = 11 then ({ h with pc := kfs h.pc (e.ba, e.ix) e.tx }) else if e.k = 12 then ({ h with rs := inc1 h.rs (e.jo, e.ba, e.rt, e.rb), cn := inc2 h.cn (e.jo, e.ba, e.ct) }) else if e.k = 13 then (if (h.adm (i + 1)).1 ≤ e.ba then { h with adm := fun k => if k = i + 1 then (e.ba, e.ix + 1) else h.adm k } else h) else if e.k = 14 then (shw h i ⟨e.st, e.ba, e.rt, e.rb, e.ts⟩) else h
def jix (e : Ev) : Nat := (e.jo - 1).toNat
/-- how a history stands when an event comes -/
def pre (h : Hs) (e : Ev) : Hs := if e.k = 14 then h else { h with sh := false }
def stp (h : Hs) (e : Ev) : Hs := bhdA (pre h e) e (jix e)
def stR (h : Hs) (e : Ev) : Ru := { brkA (pre h e) e (jix e) with a8 := (brkA (pre h e) e (jix e)).a8 || (decide (e.k ≠ 14) && msg h) }
abbrev stv (h : Hs) (e : Ev) : Value := (stR h e).v
theorem jix_nr (i : Nat) {k a b c d e f g x y : Int} {t : ByteArray} {l : List ByteArray} : jix ⟨k, a, b, c, (i : Int) + 1, d, e, f, g, x, y, t, l⟩ = i := by
  unfold jix
  simp
theorem Hs.ok.lg1 {N : Nat} {h : Hs} (hok : h.ok N) (hN : N ≤ 65536) : ∀ j ∈ h.jobs, j.lg.length ≤ 1099511627776 := fun j hj => by
  have h1 := hok.lg j hj
  have h2 : N * 1048576 ≤ 65536 * 1048576 := Nat.mul_le_mul_right _ hN
  omega
theorem Hs.ok.rs0 {N : Nat} {h : Hs} (hok : h.ok N) (hN : N ≤ 65536) (k : Int × Int × Int × Int) : 0 ≤ (h.rs k).getD 0 ∧ (h.rs k).getD 0 ≤ 1000000 := by
  cases hh : h.rs k with
  | none => simp
  | some n => have := hok.rs k n hh; simp; omega
theorem Hs.ok.cn0 {N : Nat} {h : Hs} (hok : h.ok N) (hN : N ≤ 65536) (k : Int × Int × Int) : 0 ≤ (h.cn k).getD 0 ∧ (h.cn k).getD 0 ≤ 1000000 := by
  cases hh : h.cn k with
  | none => simp
  | some n => have := hok.cn k n hh; simp; omega
section
variable {w w' w0 : World} {B b : Nat} {h : Hs} {s : Hi}
set_option maxHeartbeats 1000000 in
theorem never_any (W : World) (e : Ev) {hp : Value} {et : List ByteArray} {q : Option Addr} {cq : Nat} : Calls Try.prog 27 #[hp, e.v (.slice q et.length cq)] W fun r w' => r = .returned (rul false false false false false false false false) ∧ Below W.heap.size W w' := by
  obtain ⟨ek, eo, en, el, ej, eb, ei, ec, es, er, ew, ex, ets⟩ := e
  dsimp only [Ev.v]
  go_enter Try.func27, Try.ntmps27
  go_wp2_with fail
  refine bodyPost_ret (results_rul (fn := Try.f27) rfl _ _ (W.heap.size + 1) #[.bool false, .bool false, .bool false, .bool false, .bool false, .bool false, .bool false, .bool false, .bool false] rfl (Bx.start W _ _).ru rfl) rfl ?_
  exact ⟨rfl, (Bx.start W _ _).below⟩
set_option maxHeartbeats 1000000 in
theorem nothing_any (H : Hm w B b h s) (e : Ev) {et : List ByteArray} {q : Option Addr} {cq : Nat} : Calls Try.prog 28 #[.pointer (some ⟨b, 0, none⟩), e.v (.slice q et.length cq)] w fun r w' => r = .returned (.tuple #[]) ∧ (∃ s', Hm w' B b h s') ∧ Kt B w w' := by
  have H0 := hide H
  obtain ⟨ek, eo, en, el, ej, eb, ei, ec, es, er, ew, ex, ets⟩ := e
  dsimp only [Ev.v]
  clear H
  go_enter Try.func28, Try.ntmps28
  go_wp2_with fail
  go_end0
  exact ⟨rfl, ⟨_, H0.out.below (below_alloc _ _)⟩, Kt.of_below (below_alloc _ _)⟩
set_option maxHeartbeats 1000000 in
theorem nx_1 (H : Hm w B b h s) (h0 : w0.heap.size ≤ B) (hb0 : Below w0.heap.size w0 w) {N : Nat} (hok : h.ok N) (hN : N ≤ 65536) (ej : Int) (eo en el eb ei ec es er ew : Int) (ex : ByteArray) {et : List ByteArray} {q : Option Addr} {cq : Nat} (HV : ∀ W, Below w0.heap.size w0 W → Tx W (.slice q et.length cq) et) (F : Ev.fit ⟨1, eo, en, el, ej, eb, ei, ec, es, er, ew, ex, et⟩) :
    Calls Try.prog 20 #[.pointer (some ⟨b, 0, none⟩), .agg #[.bool false, .bool false, .func (.func 27) #[] #[], .func (.func 28) #[] #[]], .agg #[.int .i64 1, .int .i64 eo, .int .i64 en, .int .i64 el, .int .i64 ej, .int .i64 eb, .int .i64 ei, .int .i64 ec, .int .i64 es, .int .i64 er, .int .u64 ew, .string ex, .slice q et.length cq]] w fun r w' => r = .returned (stv h ⟨1, eo, en, el, ej, eb, ei, ec, es, er, ew, ex, et⟩) ∧ (∃ s', Hm w' B b (stp h ⟨1, eo, en, el, ej, eb, ei, ec, es, er, ew, ex, et⟩) s') ∧ Kt B w w' := by
  have _q1 := HV
  have _q2 := F
  have hlg := hok.lg1 hN
  have hlg1 : ∀ j ∈ ({ h with sh := false } : Hs).jobs, j.lg.length ≤ 1099511627776 := hlg
  have e2 : stp h ⟨1, eo, en, el, ej, eb, ei, ec, es, er, ew, ex, et⟩ = bhdA ({ h with sh := false }) ⟨1, eo, en, el, ej, eb, ei, ec, es, er, ew, ex, et⟩ (jix ⟨1, eo, en, el, ej, eb, ei, ec, es, er, ew, ex, et⟩) := by
    unfold stp pre
    rfl
  have e1 : stR h ⟨1, eo, en, el, ej, eb, ei, ec, es, er, ew, ex, et⟩ = { brkA ({ h with sh := false }) ⟨1, eo, en, el, ej, eb, ei, ec, es, er, ew, ex, et⟩ (jix ⟨1, eo, en, el, ej, eb, ei, ec, es, er, ew, ex, et⟩) with a8 := (brkA ({ h with sh := false }) ⟨1, eo, en, el, ej, eb, ei, ec, es, er, ew, ex, et⟩ (jix ⟨1, eo, en, el, ej, eb, ei, ec, es, er, ew, ex, et⟩)).a8 || (decide ((1 : Int) ≠ 14) && msg h) } := by
    unfold stR pre
    rfl
  refine (next_of H h0 hb0 false false 27 28 eo en el ej eb ei ec es er ew ex (h1 := { h with sh := false }) (fun _ _ => by kernel_rfl) (fun _ _ => by kernel_rfl) rfl (fun W s' hW hb => never_any W ⟨1, eo, en, el, ej, eb, ei, ec, es, er, ew, ex, et⟩ (et := et) (q := q) (cq := cq)) (fun W s' hW hb => nothing_any hW ⟨1, eo, en, el, ej, eb, ei, ec, es, er, ew, ex, et⟩ (et := et) (q := q) (cq := cq))).mono ?_
  rintro r w' ⟨rfl, h2, h3⟩
  refine ⟨by unfold stv; rw [e1]; rfl, ?_, h3⟩
  rw [e2]
  exact h2
set_option maxHeartbeats 1000000 in
theorem nx_2 (H : Hm w B b h s) (h0 : w0.heap.size ≤ B) (hb0 : Below w0.heap.size w0 w) {N : Nat} (hok : h.ok N) (hN : N ≤ 65536) {i : Nat} (hi8 : i < 8) (eo en el eb ei ec es er ew : Int) (ex : ByteArray) {et : List ByteArray} {q : Option Addr} {cq : Nat} (HV : ∀ W, Below w0.heap.size w0 W → Tx W (.slice q et.length cq) et) (F : Ev.fit ⟨2, eo, en, el, (i : Int) + 1, eb, ei, ec, es, er, ew, ex, et⟩) :
    Calls Try.prog 20 #[.pointer (some ⟨b, 0, none⟩), .agg #[.bool true, .bool false, .func (.func 29) #[] #[], .func (.func 30) #[] #[]], .agg #[.int .i64 2, .int .i64 eo, .int .i64 en, .int .i64 el, .int .i64 ((i : Int) + 1), .int .i64 eb, .int .i64 ei, .int .i64 ec, .int .i64 es, .int .i64 er, .int .u64 ew, .string ex, .slice q et.length cq]] w fun r w' => r = .returned (stv h ⟨2, eo, en, el, (i : Int) + 1, eb, ei, ec, es, er, ew, ex, et⟩) ∧ (∃ s', Hm w' B b (stp h ⟨2, eo, en, el, (i : Int) + 1, eb, ei, ec, es, er, ew, ex, et⟩) s') ∧ Kt B w w' := by
  have _q1 := HV
  have _q2 := F
  have _q4 := hi8
  have hlg := hok.lg1 hN
  have hlg1 : ∀ j ∈ ({ h with sh := false } : Hs).jobs, j.lg.length ≤ 1099511627776 := hlg
  have e2 : stp h ⟨2, eo, en, el, (i : Int) + 1, eb, ei, ec, es, er, ew, ex, et⟩ = bhdA ({ h with sh := false }) ⟨2, eo, en, el, (i : Int) + 1, eb, ei, ec, es, er, ew, ex, et⟩ i := by
    unfold stp pre
    rw [jix_nr]; rfl
  have e1 : stR h ⟨2, eo, en, el, (i : Int) + 1, eb, ei, ec, es, er, ew, ex, et⟩ = { brkA ({ h with sh := false }) ⟨2, eo, en, el, (i : Int) + 1, eb, ei, ec, es, er, ew, ex, et⟩ i with a8 := (brkA ({ h with sh := false }) ⟨2, eo, en, el, (i : Int) + 1, eb, ei, ec, es, er, ew, ex, et⟩ i).a8 || (decide ((2 : Int) ≠ 14) && msg h) } := by
    unfold stR pre
    rw [jix_nr]; rfl
  refine (next_of H h0 hb0 true false 29 30 eo en el ((i : Int) + 1) eb ei ec es er ew ex (h1 := { h with sh := false }) (fun _ _ => by kernel_rfl) (fun _ _ => by kernel_rfl) rfl (fun W s' hW hb => submitting_any hW hi8 2 eo en el eb ei ec es er ew ex (et := et) (q := q) (cq := cq)) (fun W s' hW hb => submitted_any hW hi8 2 eo en el eb ei ec es er ew ex (et := et) (q := q) (cq := cq))).mono ?_
  rintro r w' ⟨rfl, h2, h3⟩
  refine ⟨by unfold stv; rw [e1]; rfl, ?_, h3⟩
  rw [e2]
  exact h2
set_option maxHeartbeats 1000000 in
theorem nx_3 (H : Hm w B b h s) (h0 : w0.heap.size ≤ B) (hb0 : Below w0.heap.size w0 w) {N : Nat} (hok : h.ok N) (hN : N ≤ 65536) (ej : Int) (eo en el eb ei ec es er ew : Int) (ex : ByteArray) {et : List ByteArray} {q : Option Addr} {cq : Nat} (HV : ∀ W, Below w0.heap.size w0 W → Tx W (.slice q et.length cq) et) (F : Ev.fit ⟨3, eo, en, el, ej, eb, ei, ec, es, er, ew, ex, et⟩) :
    Calls Try.prog 20 #[.pointer (some ⟨b, 0, none⟩), .agg #[.bool false, .bool false, .func (.func 27) #[] #[], .func (.func 28) #[] #[]], .agg #[.int .i64 3, .int .i64 eo, .int .i64 en, .int .i64 el, .int .i64 ej, .int .i64 eb, .int .i64 ei, .int .i64 ec, .int .i64 es, .int .i64 er, .int .u64 ew, .string ex, .slice q et.length cq]] w fun r w' => r = .returned (stv h ⟨3, eo, en, el, ej, eb, ei, ec, es, er, ew, ex, et⟩) ∧ (∃ s', Hm w' B b (stp h ⟨3, eo, en, el, ej, eb, ei, ec, es, er, ew, ex, et⟩) s') ∧ Kt B w w' := by
  have _q1 := HV
  have _q2 := F
  have hlg := hok.lg1 hN
  have hlg1 : ∀ j ∈ ({ h with sh := false } : Hs).jobs, j.lg.length ≤ 1099511627776 := hlg
  have e2 : stp h ⟨3, eo, en, el, ej, eb, ei, ec, es, er, ew, ex, et⟩ = bhdA ({ h with sh := false }) ⟨3, eo, en, el, ej, eb, ei, ec, es, er, ew, ex, et⟩ (jix ⟨3, eo, en, el, ej, eb, ei, ec, es, er, ew, ex, et⟩) := by
    unfold stp pre
    rfl
  have e1 : stR h ⟨3, eo, en, el, ej, eb, ei, ec, es, er, ew, ex, et⟩ = { brkA ({ h with sh := false }) ⟨3, eo, en, el, ej, eb, ei, ec, es, er, ew, ex, et⟩ (jix ⟨3, eo, en, el, ej, eb, ei, ec, es, er, ew, ex, et⟩) with a8 := (brkA ({ h with sh := false }) ⟨3, eo, en, el, ej, eb, ei, ec, es, er, ew, ex, et⟩ (jix ⟨3, eo, en, el, ej, eb, ei, ec, es, er, ew, ex, et⟩)).a8 || (decide ((3 : Int) ≠ 14) && msg h) } := by
    unfold stR pre
    rfl
  refine (next_of H h0 hb0 false false 27 28 eo en el ej eb ei ec es er ew ex (h1 := { h with sh := false }) (fun _ _ => by kernel_rfl) (fun _ _ => by kernel_rfl) rfl (fun W s' hW hb => never_any W ⟨3, eo, en, el, ej, eb, ei, ec, es, er, ew, ex, et⟩ (et := et) (q := q) (cq := cq)) (fun W s' hW hb => nothing_any hW ⟨3, eo, en, el, ej, eb, ei, ec, es, er, ew, ex, et⟩ (et := et) (q := q) (cq := cq))).mono ?_
  rintro r w' ⟨rfl, h2, h3⟩
  refine ⟨by unfold stv; rw [e1]; rfl, ?_, h3⟩
  rw [e2]
  exact h2
set_option maxHeartbeats 1000000 in
theorem nx_4 (H : Hm w B b h s) (h0 : w0.heap.size ≤ B) (hb0 : Below w0.heap.size w0 w) {N : Nat} (hok : h.ok N) (hN : N ≤ 65536) (ej : Int) (eo en el eb ei ec es er ew : Int) (ex : ByteArray) {et : List ByteArray} {q : Option Addr} {cq : Nat} (HV : ∀ W, Below w0.heap.size w0 W → Tx W (.slice q et.length cq) et) (F : Ev.fit ⟨4, eo, en, el, ej, eb, ei, ec, es, er, ew, ex, et⟩) :
    Calls Try.prog 20 #[.pointer (some ⟨b, 0, none⟩), .agg #[.bool false, .bool false, .func (.func 27) #[] #[], .func (.func 31) #[] #[]], .agg #[.int .i64 4, .int .i64 eo, .int .i64 en, .int .i64 el, .int .i64 ej, .int .i64 eb, .int .i64 ei, .int .i64 ec, .int .i64 es, .int .i64 er, .int .u64 ew, .string ex, .slice q et.length cq]] w fun r w' => r = .returned (stv h ⟨4, eo, en, el, ej, eb, ei, ec, es, er, ew, ex, et⟩) ∧ (∃ s', Hm w' B b (stp h ⟨4, eo, en, el, ej, eb, ei, ec, es, er, ew, ex, et⟩) s') ∧ Kt B w w' := by
  have _q1 := HV
  have _q2 := F
  have hlg := hok.lg1 hN
  have hlg1 : ∀ j ∈ ({ h with sh := false } : Hs).jobs, j.lg.length ≤ 1099511627776 := hlg
  have e2 : stp h ⟨4, eo, en, el, ej, eb, ei, ec, es, er, ew, ex, et⟩ = bhdA ({ h with sh := false }) ⟨4, eo, en, el, ej, eb, ei, ec, es, er, ew, ex, et⟩ (jix ⟨4, eo, en, el, ej, eb, ei, ec, es, er, ew, ex, et⟩) := by
    unfold stp pre
    rfl
  have e1 : stR h ⟨4, eo, en, el, ej, eb, ei, ec, es, er, ew, ex, et⟩ = { brkA ({ h with sh := false }) ⟨4, eo, en, el, ej, eb, ei, ec, es, er, ew, ex, et⟩ (jix ⟨4, eo, en, el, ej, eb, ei, ec, es, er, ew, ex, et⟩) with a8 := (brkA ({ h with sh := false }) ⟨4, eo, en, el, ej, eb, ei, ec, es, er, ew, ex, et⟩ (jix ⟨4, eo, en, el, ej, eb, ei, ec, es, er, ew, ex, et⟩)).a8 || (decide ((4 : Int) ≠ 14) && msg h) } := by
    unfold stR pre
    rfl
  refine (next_of H h0 hb0 false false 27 31 eo en el ej eb ei ec es er ew ex (h1 := { h with sh := false }) (fun _ _ => by kernel_rfl) (fun _ _ => by kernel_rfl) rfl (fun W s' hW hb => never_any W ⟨4, eo, en, el, ej, eb, ei, ec, es, er, ew, ex, et⟩ (et := et) (q := q) (cq := cq)) (fun W s' hW hb => up_any hW 4 eo en el ej eb ei ec es er ew ex (et := et) (q := q) (cq := cq))).mono ?_
  rintro r w' ⟨rfl, h2, h3⟩
  refine ⟨by unfold stv; rw [e1]; rfl, ?_, h3⟩
  rw [e2]
  exact h2
set_option maxHeartbeats 1000000 in
theorem nx_5 (H : Hm w B b h s) (h0 : w0.heap.size ≤ B) (hb0 : Below w0.heap.size w0 w) {N : Nat} (hok : h.ok N) (hN : N ≤ 65536) {i : Nat} (hi8 : i < 8) (eo en el eb ei ec es er ew : Int) (ex : ByteArray) {et : List ByteArray} {q : Option Addr} {cq : Nat} (HV : ∀ W, Below w0.heap.size w0 W → Tx W (.slice q et.length cq) et) (F : Ev.fit ⟨5, eo, en, el, (i : Int) + 1, eb, ei, ec, es, er, ew, ex, et⟩) :
    Calls Try.prog 20 #[.pointer (some ⟨b, 0, none⟩), .agg #[.bool true, .bool false, .func (.func 32) #[] #[], .func (.func 33) #[] #[]], .agg #[.int .i64 5, .int .i64 eo, .int .i64 en, .int .i64 el, .int .i64 ((i : Int) + 1), .int .i64 eb, .int .i64 ei, .int .i64 ec, .int .i64 es, .int .i64 er, .int .u64 ew, .string ex, .slice q et.length cq]] w fun r w' => r = .returned (stv h ⟨5, eo, en, el, (i : Int) + 1, eb, ei, ec, es, er, ew, ex, et⟩) ∧ (∃ s', Hm w' B b (stp h ⟨5, eo, en, el, (i : Int) + 1, eb, ei, ec, es, er, ew, ex, et⟩) s') ∧ Kt B w w' := by
  have _q1 := HV
  have _q2 := F
  have _q4 := hi8
  have hlg := hok.lg1 hN
  have hlg1 : ∀ j ∈ ({ h with sh := false } : Hs).jobs, j.lg.length ≤ 1099511627776 := hlg
  have e2 : stp h ⟨5, eo, en, el, (i : Int) + 1, eb, ei, ec, es, er, ew, ex, et⟩ = bhdA ({ h with sh := false }) ⟨5, eo, en, el, (i : Int) + 1, eb, ei, ec, es, er, ew, ex, et⟩ i := by
    unfold stp pre
    rw [jix_nr]; rfl
  have e1 : stR h ⟨5, eo, en, el, (i : Int) + 1, eb, ei, ec, es, er, ew, ex, et⟩ = { brkA ({ h with sh := false }) ⟨5, eo, en, el, (i : Int) + 1, eb, ei, ec, es, er, ew, ex, et⟩ i with a8 := (brkA ({ h with sh := false }) ⟨5, eo, en, el, (i : Int) + 1, eb, ei, ec, es, er, ew, ex, et⟩ i).a8 || (decide ((5 : Int) ≠ 14) && msg h) } := by
    unfold stR pre
    rw [jix_nr]; rfl
  refine (next_of H h0 hb0 true false 32 33 eo en el ((i : Int) + 1) eb ei ec es er ew ex (h1 := { h with sh := false }) (fun _ _ => by kernel_rfl) (fun _ _ => by kernel_rfl) rfl (fun W s' hW hb => granting_any hW hi8 5 eo en el eb ei ec es er ew ex (et := et) (q := q) (cq := cq)) (fun W s' hW hb => granted_any hW hi8 5 eo en el eb ei ec es er ew ex (et := et) (q := q) (cq := cq))).mono ?_
  rintro r w' ⟨rfl, h2, h3⟩
  refine ⟨by unfold stv; rw [e1]; rfl, ?_, h3⟩
  rw [e2]
  exact h2
set_option maxHeartbeats 1000000 in
theorem nx_6 (H : Hm w B b h s) (h0 : w0.heap.size ≤ B) (hb0 : Below w0.heap.size w0 w) {N : Nat} (hok : h.ok N) (hN : N ≤ 65536) {i : Nat} (hi8 : i < 8) (eo en el eb ei ec es er ew : Int) (ex : ByteArray) {et : List ByteArray} {q : Option Addr} {cq : Nat} (HV : ∀ W, Below w0.heap.size w0 W → Tx W (.slice q et.length cq) et) (F : Ev.fit ⟨6, eo, en, el, (i : Int) + 1, eb, ei, ec, es, er, ew, ex, et⟩) :
    Calls Try.prog 20 #[.pointer (some ⟨b, 0, none⟩), .agg #[.bool true, .bool false, .func (.func 34) #[] #[], .func (.func 35) #[] #[]], .agg #[.int .i64 6, .int .i64 eo, .int .i64 en, .int .i64 el, .int .i64 ((i : Int) + 1), .int .i64 eb, .int .i64 ei, .int .i64 ec, .int .i64 es, .int .i64 er, .int .u64 ew, .string ex, .slice q et.length cq]] w fun r w' => r = .returned (stv h ⟨6, eo, en, el, (i : Int) + 1, eb, ei, ec, es, er, ew, ex, et⟩) ∧ (∃ s', Hm w' B b (stp h ⟨6, eo, en, el, (i : Int) + 1, eb, ei, ec, es, er, ew, ex, et⟩) s') ∧ Kt B w w' := by
  have _q1 := HV
  have _q2 := F
  have _q4 := hi8
  have hlg := hok.lg1 hN
  have hlg1 : ∀ j ∈ ({ h with sh := false } : Hs).jobs, j.lg.length ≤ 1099511627776 := hlg
  have e2 : stp h ⟨6, eo, en, el, (i : Int) + 1, eb, ei, ec, es, er, ew, ex, et⟩ = bhdA ({ h with sh := false }) ⟨6, eo, en, el, (i : Int) + 1, eb, ei, ec, es, er, ew, ex, et⟩ i := by
    unfold stp pre
    rw [jix_nr]; rfl
  have e1 : stR h ⟨6, eo, en, el, (i : Int) + 1, eb, ei, ec, es, er, ew, ex, et⟩ = { brkA ({ h with sh := false }) ⟨6, eo, en, el, (i : Int) + 1, eb, ei, ec, es, er, ew, ex, et⟩ i with a8 := (brkA ({ h with sh := false }) ⟨6, eo, en, el, (i : Int) + 1, eb, ei, ec, es, er, ew, ex, et⟩ i).a8 || (decide ((6 : Int) ≠ 14) && msg h) } := by
    unfold stR pre
    rw [jix_nr]; rfl
  refine (next_of H h0 hb0 true false 34 35 eo en el ((i : Int) + 1) eb ei ec es er ew ex (h1 := { h with sh := false }) (fun _ _ => by kernel_rfl) (fun _ _ => by kernel_rfl) rfl (fun W s' hW hb => expiring_any hW hi8 6 eo en el eb ei ec es er ew ex (et := et) (q := q) (cq := cq)) (fun W s' hW hb => expired_any hW hi8 6 eo en el eb ei ec es er ew ex (et := et) (q := q) (cq := cq))).mono ?_
  rintro r w' ⟨rfl, h2, h3⟩
  refine ⟨by unfold stv; rw [e1]; rfl, ?_, h3⟩
  rw [e2]
  exact h2
set_option maxHeartbeats 1000000 in
theorem nx_7 (H : Hm w B b h s) (h0 : w0.heap.size ≤ B) (hb0 : Below w0.heap.size w0 w) {N : Nat} (hok : h.ok N) (hN : N ≤ 65536) {i : Nat} (hi8 : i < 8) (eo en el eb ei ec es er ew : Int) (ex : ByteArray) {et : List ByteArray} {q : Option Addr} {cq : Nat} (HV : ∀ W, Below w0.heap.size w0 W → Tx W (.slice q et.length cq) et) (F : Ev.fit ⟨7, eo, en, el, (i : Int) + 1, eb, ei, ec, es, er, ew, ex, et⟩) :
    Calls Try.prog 20 #[.pointer (some ⟨b, 0, none⟩), .agg #[.bool true, .bool false, .func (.func 36) #[] #[], .func (.func 37) #[] #[]], .agg #[.int .i64 7, .int .i64 eo, .int .i64 en, .int .i64 el, .int .i64 ((i : Int) + 1), .int .i64 eb, .int .i64 ei, .int .i64 ec, .int .i64 es, .int .i64 er, .int .u64 ew, .string ex, .slice q et.length cq]] w fun r w' => r = .returned (stv h ⟨7, eo, en, el, (i : Int) + 1, eb, ei, ec, es, er, ew, ex, et⟩) ∧ (∃ s', Hm w' B b (stp h ⟨7, eo, en, el, (i : Int) + 1, eb, ei, ec, es, er, ew, ex, et⟩) s') ∧ Kt B w w' := by
  have _q1 := HV
  have _q2 := F
  have _q4 := hi8
  have hlg := hok.lg1 hN
  have hlg1 : ∀ j ∈ ({ h with sh := false } : Hs).jobs, j.lg.length ≤ 1099511627776 := hlg
  have e2 : stp h ⟨7, eo, en, el, (i : Int) + 1, eb, ei, ec, es, er, ew, ex, et⟩ = bhdA ({ h with sh := false }) ⟨7, eo, en, el, (i : Int) + 1, eb, ei, ec, es, er, ew, ex, et⟩ i := by
    unfold stp pre
    rw [jix_nr]; rfl
  have e1 : stR h ⟨7, eo, en, el, (i : Int) + 1, eb, ei, ec, es, er, ew, ex, et⟩ = { brkA ({ h with sh := false }) ⟨7, eo, en, el, (i : Int) + 1, eb, ei, ec, es, er, ew, ex, et⟩ i with a8 := (brkA ({ h with sh := false }) ⟨7, eo, en, el, (i : Int) + 1, eb, ei, ec, es, er, ew, ex, et⟩ i).a8 || (decide ((7 : Int) ≠ 14) && msg h) } := by
    unfold stR pre
    rw [jix_nr]; rfl
  refine (next_of H h0 hb0 true false 36 37 eo en el ((i : Int) + 1) eb ei ec es er ew ex (h1 := { h with sh := false }) (fun _ _ => by kernel_rfl) (fun _ _ => by kernel_rfl) rfl (fun W s' hW hb => losing_any hW hi8 7 eo en el eb ei ec es er ew ex (et := et) (q := q) (cq := cq)) (fun W s' hW hb => lost_any hW hi8 7 eo en el eb ei ec es er ew ex (et := et) (q := q) (cq := cq))).mono ?_
  rintro r w' ⟨rfl, h2, h3⟩
  refine ⟨by unfold stv; rw [e1]; rfl, ?_, h3⟩
  rw [e2]
  exact h2
set_option maxHeartbeats 1000000 in
theorem nx_8 (H : Hm w B b h s) (h0 : w0.heap.size ≤ B) (hb0 : Below w0.heap.size w0 w) {N : Nat} (hok : h.ok N) (hN : N ≤ 65536) {i : Nat} (hi8 : i < 8) (eo en el eb ei ec es er ew : Int) (ex : ByteArray) {et : List ByteArray} {q : Option Addr} {cq : Nat} (HV : ∀ W, Below w0.heap.size w0 W → Tx W (.slice q et.length cq) et) (F : Ev.fit ⟨8, eo, en, el, (i : Int) + 1, eb, ei, ec, es, er, ew, ex, et⟩) (hix : 0 ≤ ei ∧ ei ≤ 1099511627776) :
    Calls Try.prog 20 #[.pointer (some ⟨b, 0, none⟩), .agg #[.bool true, .bool true, .func (.func 38) #[] #[], .func (.func 39) #[] #[]], .agg #[.int .i64 8, .int .i64 eo, .int .i64 en, .int .i64 el, .int .i64 ((i : Int) + 1), .int .i64 eb, .int .i64 ei, .int .i64 ec, .int .i64 es, .int .i64 er, .int .u64 ew, .string ex, .slice q et.length cq]] w fun r w' => r = .returned (stv h ⟨8, eo, en, el, (i : Int) + 1, eb, ei, ec, es, er, ew, ex, et⟩) ∧ (∃ s', Hm w' B b (stp h ⟨8, eo, en, el, (i : Int) + 1, eb, ei, ec, es, er, ew, ex, et⟩) s') ∧ Kt B w w' := by
  have _q1 := HV
  have _q2 := F
  have _q3 := hix
  have _q4 := hi8
  have hlg := hok.lg1 hN
  have hlg1 : ∀ j ∈ ({ h with sh := false } : Hs).jobs, j.lg.length ≤ 1099511627776 := hlg
  have e2 : stp h ⟨8, eo, en, el, (i : Int) + 1, eb, ei, ec, es, er, ew, ex, et⟩ = bhdA ({ h with sh := false }) ⟨8, eo, en, el, (i : Int) + 1, eb, ei, ec, es, er, ew, ex, et⟩ i := by
    unfold stp pre
    rw [jix_nr]; rfl
  have e1 : stR h ⟨8, eo, en, el, (i : Int) + 1, eb, ei, ec, es, er, ew, ex, et⟩ = { brkA ({ h with sh := false }) ⟨8, eo, en, el, (i : Int) + 1, eb, ei, ec, es, er, ew, ex, et⟩ i with a8 := (brkA ({ h with sh := false }) ⟨8, eo, en, el, (i : Int) + 1, eb, ei, ec, es, er, ew, ex, et⟩ i).a8 || (decide ((8 : Int) ≠ 14) && msg h) } := by
    unfold stR pre
    rw [jix_nr]; rfl
  refine (next_of H h0 hb0 true true 38 39 eo en el ((i : Int) + 1) eb ei ec es er ew ex (h1 := { h with sh := false }) (fun _ _ => by kernel_rfl) (fun _ _ => by kernel_rfl) rfl (fun W s' hW hb => storing_any hW hi8 8 eo en el eb ei ec es er ew ex (HV W hb) F.ts F.ba hix) (fun W s' hW hb => stored_any hW hi8 8 eo en el eb ei ec es er ew ex (HV W hb) F.ts hlg1)).mono ?_
  rintro r w' ⟨rfl, h2, h3⟩
  refine ⟨by unfold stv; rw [e1]; rfl, ?_, h3⟩
  rw [e2]
  exact h2
set_option maxHeartbeats 1000000 in
theorem nx_9 (H : Hm w B b h s) (h0 : w0.heap.size ≤ B) (hb0 : Below w0.heap.size w0 w) {N : Nat} (hok : h.ok N) (hN : N ≤ 65536) {i : Nat} (hi8 : i < 8) (eo en el eb ei ec es er ew : Int) (ex : ByteArray) {et : List ByteArray} {q : Option Addr} {cq : Nat} (HV : ∀ W, Below w0.heap.size w0 W → Tx W (.slice q et.length cq) et) (F : Ev.fit ⟨9, eo, en, el, (i : Int) + 1, eb, ei, ec, es, er, ew, ex, et⟩) :
    Calls Try.prog 20 #[.pointer (some ⟨b, 0, none⟩), .agg #[.bool true, .bool false, .func (.func 40) #[] #[], .func (.func 41) #[] #[]], .agg #[.int .i64 9, .int .i64 eo, .int .i64 en, .int .i64 el, .int .i64 ((i : Int) + 1), .int .i64 eb, .int .i64 ei, .int .i64 ec, .int .i64 es, .int .i64 er, .int .u64 ew, .string ex, .slice q et.length cq]] w fun r w' => r = .returned (stv h ⟨9, eo, en, el, (i : Int) + 1, eb, ei, ec, es, er, ew, ex, et⟩) ∧ (∃ s', Hm w' B b (stp h ⟨9, eo, en, el, (i : Int) + 1, eb, ei, ec, es, er, ew, ex, et⟩) s') ∧ Kt B w w' := by
  have _q1 := HV
  have _q2 := F
  have _q4 := hi8
  have hlg := hok.lg1 hN
  have hlg1 : ∀ j ∈ ({ h with sh := false } : Hs).jobs, j.lg.length ≤ 1099511627776 := hlg
  have e2 : stp h ⟨9, eo, en, el, (i : Int) + 1, eb, ei, ec, es, er, ew, ex, et⟩ = bhdA ({ h with sh := false }) ⟨9, eo, en, el, (i : Int) + 1, eb, ei, ec, es, er, ew, ex, et⟩ i := by
    unfold stp pre
    rw [jix_nr]; rfl
  have e1 : stR h ⟨9, eo, en, el, (i : Int) + 1, eb, ei, ec, es, er, ew, ex, et⟩ = { brkA ({ h with sh := false }) ⟨9, eo, en, el, (i : Int) + 1, eb, ei, ec, es, er, ew, ex, et⟩ i with a8 := (brkA ({ h with sh := false }) ⟨9, eo, en, el, (i : Int) + 1, eb, ei, ec, es, er, ew, ex, et⟩ i).a8 || (decide ((9 : Int) ≠ 14) && msg h) } := by
    unfold stR pre
    rw [jix_nr]; rfl
  refine (next_of H h0 hb0 true false 40 41 eo en el ((i : Int) + 1) eb ei ec es er ew ex (h1 := { h with sh := false }) (fun _ _ => by kernel_rfl) (fun _ _ => by kernel_rfl) rfl (fun W s' hW hb => recording_any hW hi8 9 eo en el eb ei ec es er ew ex (et := et) (q := q) (cq := cq) F.ba F.rt F.rb hlg1) (fun W s' hW hb => recorded_any hW hi8 9 eo en el eb ei ec es er ew ex (et := et) (q := q) (cq := cq))).mono ?_
  rintro r w' ⟨rfl, h2, h3⟩
  refine ⟨by unfold stv; rw [e1]; rfl, ?_, h3⟩
  rw [e2]
  exact h2
set_option maxHeartbeats 1000000 in
theorem nx_10 (H : Hm w B b h s) (h0 : w0.heap.size ≤ B) (hb0 : Below w0.heap.size w0 w) {N : Nat} (hok : h.ok N) (hN : N ≤ 65536) (ej : Int) (eo en el eb ei ec es er ew : Int) (ex : ByteArray) {et : List ByteArray} {q : Option Addr} {cq : Nat} (HV : ∀ W, Below w0.heap.size w0 W → Tx W (.slice q et.length cq) et) (F : Ev.fit ⟨10, eo, en, el, ej, eb, ei, ec, es, er, ew, ex, et⟩) (hix : 0 ≤ ei ∧ ei ≤ 1099511627776) :
    Calls Try.prog 20 #[.pointer (some ⟨b, 0, none⟩), .agg #[.bool false, .bool true, .func (.func 27) #[] #[], .func (.func 42) #[] #[]], .agg #[.int .i64 10, .int .i64 eo, .int .i64 en, .int .i64 el, .int .i64 ej, .int .i64 eb, .int .i64 ei, .int .i64 ec, .int .i64 es, .int .i64 er, .int .u64 ew, .string ex, .slice q et.length cq]] w fun r w' => r = .returned (stv h ⟨10, eo, en, el, ej, eb, ei, ec, es, er, ew, ex, et⟩) ∧ (∃ s', Hm w' B b (stp h ⟨10, eo, en, el, ej, eb, ei, ec, es, er, ew, ex, et⟩) s') ∧ Kt B w w' := by
  have _q1 := HV
  have _q2 := F
  have _q3 := hix
  have hlg := hok.lg1 hN
  have hlg1 : ∀ j ∈ ({ h with sh := false } : Hs).jobs, j.lg.length ≤ 1099511627776 := hlg
  have e2 : stp h ⟨10, eo, en, el, ej, eb, ei, ec, es, er, ew, ex, et⟩ = bhdA ({ h with sh := false }) ⟨10, eo, en, el, ej, eb, ei, ec, es, er, ew, ex, et⟩ (jix ⟨10, eo, en, el, ej, eb, ei, ec, es, er, ew, ex, et⟩) := by
    unfold stp pre
    rfl
  have e1 : stR h ⟨10, eo, en, el, ej, eb, ei, ec, es, er, ew, ex, et⟩ = { brkA ({ h with sh := false }) ⟨10, eo, en, el, ej, eb, ei, ec, es, er, ew, ex, et⟩ (jix ⟨10, eo, en, el, ej, eb, ei, ec, es, er, ew, ex, et⟩) with a8 := (brkA ({ h with sh := false }) ⟨10, eo, en, el, ej, eb, ei, ec, es, er, ew, ex, et⟩ (jix ⟨10, eo, en, el, ej, eb, ei, ec, es, er, ew, ex, et⟩)).a8 || (decide ((10 : Int) ≠ 14) && msg h) } := by
    unfold stR pre
    rfl
  refine (next_of H h0 hb0 false true 27 42 eo en el ej eb ei ec es er ew ex (h1 := { h with sh := false }) (fun _ _ => by kernel_rfl) (fun _ _ => by kernel_rfl) rfl (fun W s' hW hb => never_any W ⟨10, eo, en, el, ej, eb, ei, ec, es, er, ew, ex, et⟩ (et := et) (q := q) (cq := cq)) (fun W s' hW hb => emitted_any hW 10 eo en el ej eb ei ec es er ew ex (et := et) (q := q) (cq := cq) F.ba F.ix)).mono ?_
  rintro r w' ⟨rfl, h2, h3⟩
  refine ⟨by unfold stv; rw [e1]; rfl, ?_, h3⟩
  rw [e2]
  exact h2
set_option maxHeartbeats 1000000 in
theorem nx_11 (H : Hm w B b h s) (h0 : w0.heap.size ≤ B) (hb0 : Below w0.heap.size w0 w) {N : Nat} (hok : h.ok N) (hN : N ≤ 65536) (ej : Int) (eo en el eb ei ec es er ew : Int) (ex : ByteArray) {et : List ByteArray} {q : Option Addr} {cq : Nat} (HV : ∀ W, Below w0.heap.size w0 W → Tx W (.slice q et.length cq) et) (F : Ev.fit ⟨11, eo, en, el, ej, eb, ei, ec, es, er, ew, ex, et⟩) (hix : 0 ≤ ei ∧ ei ≤ 1099511627776) :
    Calls Try.prog 20 #[.pointer (some ⟨b, 0, none⟩), .agg #[.bool false, .bool true, .func (.func 27) #[] #[], .func (.func 43) #[] #[]], .agg #[.int .i64 11, .int .i64 eo, .int .i64 en, .int .i64 el, .int .i64 ej, .int .i64 eb, .int .i64 ei, .int .i64 ec, .int .i64 es, .int .i64 er, .int .u64 ew, .string ex, .slice q et.length cq]] w fun r w' => r = .returned (stv h ⟨11, eo, en, el, ej, eb, ei, ec, es, er, ew, ex, et⟩) ∧ (∃ s', Hm w' B b (stp h ⟨11, eo, en, el, ej, eb, ei, ec, es, er, ew, ex, et⟩) s') ∧ Kt B w w' := by
  have _q1 := HV
  have _q2 := F
  have _q3 := hix
  have hlg := hok.lg1 hN
  have hlg1 : ∀ j ∈ ({ h with sh := false } : Hs).jobs, j.lg.length ≤ 1099511627776 := hlg
  have e2 : stp h ⟨11, eo, en, el, ej, eb, ei, ec, es, er, ew, ex, et⟩ = bhdA ({ h with sh := false }) ⟨11, eo, en, el, ej, eb, ei, ec, es, er, ew, ex, et⟩ (jix ⟨11, eo, en, el, ej, eb, ei, ec, es, er, ew, ex, et⟩) := by
    unfold stp pre
    rfl
  have e1 : stR h ⟨11, eo, en, el, ej, eb, ei, ec, es, er, ew, ex, et⟩ = { brkA ({ h with sh := false }) ⟨11, eo, en, el, ej, eb, ei, ec, es, er, ew, ex, et⟩ (jix ⟨11, eo, en, el, ej, eb, ei, ec, es, er, ew, ex, et⟩) with a8 := (brkA ({ h with sh := false }) ⟨11, eo, en, el, ej, eb, ei, ec, es, er, ew, ex, et⟩ (jix ⟨11, eo, en, el, ej, eb, ei, ec, es, er, ew, ex, et⟩)).a8 || (decide ((11 : Int) ≠ 14) && msg h) } := by
    unfold stR pre
    rfl
  refine (next_of H h0 hb0 false true 27 43 eo en el ej eb ei ec es er ew ex (h1 := { h with sh := false }) (fun _ _ => by kernel_rfl) (fun _ _ => by kernel_rfl) rfl (fun W s' hW hb => never_any W ⟨11, eo, en, el, ej, eb, ei, ec, es, er, ew, ex, et⟩ (et := et) (q := q) (cq := cq)) (fun W s' hW hb => wrote_any hW 11 eo en el ej eb ei ec es er ew ex (et := et) (q := q) (cq := cq) F.ba F.ix)).mono ?_
  rintro r w' ⟨rfl, h2, h3⟩
  refine ⟨by unfold stv; rw [e1]; rfl, ?_, h3⟩
  rw [e2]
  exact h2
set_option maxHeartbeats 1000000 in
theorem nx_12 (H : Hm w B b h s) (h0 : w0.heap.size ≤ B) (hb0 : Below w0.heap.size w0 w) {N : Nat} (hok : h.ok N) (hN : N ≤ 65536) (ej : Int) (eo en el eb ei ec es er ew : Int) (ex : ByteArray) {et : List ByteArray} {q : Option Addr} {cq : Nat} (HV : ∀ W, Below w0.heap.size w0 W → Tx W (.slice q et.length cq) et) (F : Ev.fit ⟨12, eo, en, el, ej, eb, ei, ec, es, er, ew, ex, et⟩) :
    Calls Try.prog 20 #[.pointer (some ⟨b, 0, none⟩), .agg #[.bool false, .bool false, .func (.func 27) #[] #[], .func (.func 44) #[] #[]], .agg #[.int .i64 12, .int .i64 eo, .int .i64 en, .int .i64 el, .int .i64 ej, .int .i64 eb, .int .i64 ei, .int .i64 ec, .int .i64 es, .int .i64 er, .int .u64 ew, .string ex, .slice q et.length cq]] w fun r w' => r = .returned (stv h ⟨12, eo, en, el, ej, eb, ei, ec, es, er, ew, ex, et⟩) ∧ (∃ s', Hm w' B b (stp h ⟨12, eo, en, el, ej, eb, ei, ec, es, er, ew, ex, et⟩) s') ∧ Kt B w w' := by
  have _q1 := HV
  have _q2 := F
  have hlg := hok.lg1 hN
  have hlg1 : ∀ j ∈ ({ h with sh := false } : Hs).jobs, j.lg.length ≤ 1099511627776 := hlg
  have e2 : stp h ⟨12, eo, en, el, ej, eb, ei, ec, es, er, ew, ex, et⟩ = bhdA ({ h with sh := false }) ⟨12, eo, en, el, ej, eb, ei, ec, es, er, ew, ex, et⟩ (jix ⟨12, eo, en, el, ej, eb, ei, ec, es, er, ew, ex, et⟩) := by
    unfold stp pre
    rfl
  have e1 : stR h ⟨12, eo, en, el, ej, eb, ei, ec, es, er, ew, ex, et⟩ = { brkA ({ h with sh := false }) ⟨12, eo, en, el, ej, eb, ei, ec, es, er, ew, ex, et⟩ (jix ⟨12, eo, en, el, ej, eb, ei, ec, es, er, ew, ex, et⟩) with a8 := (brkA ({ h with sh := false }) ⟨12, eo, en, el, ej, eb, ei, ec, es, er, ew, ex, et⟩ (jix ⟨12, eo, en, el, ej, eb, ei, ec, es, er, ew, ex, et⟩)).a8 || (decide ((12 : Int) ≠ 14) && msg h) } := by
    unfold stR pre
    rfl
  refine (next_of H h0 hb0 false false 27 44 eo en el ej eb ei ec es er ew ex (h1 := { h with sh := false }) (fun _ _ => by kernel_rfl) (fun _ _ => by kernel_rfl) rfl (fun W s' hW hb => never_any W ⟨12, eo, en, el, ej, eb, ei, ec, es, er, ew, ex, et⟩ (et := et) (q := q) (cq := cq)) (fun W s' hW hb => ended_any hW 12 eo en el ej eb ei ec es er ew ex (et := et) (q := q) (cq := cq) F.jo F.ba F.ct F.rt F.rb (hok.rs0 hN _) (hok.cn0 hN _))).mono ?_
  rintro r w' ⟨rfl, h2, h3⟩
  refine ⟨by unfold stv; rw [e1]; rfl, ?_, h3⟩
  rw [e2]
  exact h2
set_option maxHeartbeats 1000000 in
theorem nx_13 (H : Hm w B b h s) (h0 : w0.heap.size ≤ B) (hb0 : Below w0.heap.size w0 w) {N : Nat} (hok : h.ok N) (hN : N ≤ 65536) {i : Nat} (hi8 : i < 8) (eo en el eb ei ec es er ew : Int) (ex : ByteArray) {et : List ByteArray} {q : Option Addr} {cq : Nat} (HV : ∀ W, Below w0.heap.size w0 W → Tx W (.slice q et.length cq) et) (F : Ev.fit ⟨13, eo, en, el, (i : Int) + 1, eb, ei, ec, es, er, ew, ex, et⟩) (hix : 0 ≤ ei ∧ ei ≤ 1099511627776) :
    Calls Try.prog 20 #[.pointer (some ⟨b, 0, none⟩), .agg #[.bool true, .bool true, .func (.func 45) #[] #[], .func (.func 46) #[] #[]], .agg #[.int .i64 13, .int .i64 eo, .int .i64 en, .int .i64 el, .int .i64 ((i : Int) + 1), .int .i64 eb, .int .i64 ei, .int .i64 ec, .int .i64 es, .int .i64 er, .int .u64 ew, .string ex, .slice q et.length cq]] w fun r w' => r = .returned (stv h ⟨13, eo, en, el, (i : Int) + 1, eb, ei, ec, es, er, ew, ex, et⟩) ∧ (∃ s', Hm w' B b (stp h ⟨13, eo, en, el, (i : Int) + 1, eb, ei, ec, es, er, ew, ex, et⟩) s') ∧ Kt B w w' := by
  have _q1 := HV
  have _q2 := F
  have _q3 := hix
  have _q4 := hi8
  have hlg := hok.lg1 hN
  have hlg1 : ∀ j ∈ ({ h with sh := false } : Hs).jobs, j.lg.length ≤ 1099511627776 := hlg
  have e2 : stp h ⟨13, eo, en, el, (i : Int) + 1, eb, ei, ec, es, er, ew, ex, et⟩ = bhdA ({ h with sh := false }) ⟨13, eo, en, el, (i : Int) + 1, eb, ei, ec, es, er, ew, ex, et⟩ i := by
    unfold stp pre
    rw [jix_nr]; rfl
  have e1 : stR h ⟨13, eo, en, el, (i : Int) + 1, eb, ei, ec, es, er, ew, ex, et⟩ = { brkA ({ h with sh := false }) ⟨13, eo, en, el, (i : Int) + 1, eb, ei, ec, es, er, ew, ex, et⟩ i with a8 := (brkA ({ h with sh := false }) ⟨13, eo, en, el, (i : Int) + 1, eb, ei, ec, es, er, ew, ex, et⟩ i).a8 || (decide ((13 : Int) ≠ 14) && msg h) } := by
    unfold stR pre
    rw [jix_nr]; rfl
  refine (next_of H h0 hb0 true true 45 46 eo en el ((i : Int) + 1) eb ei ec es er ew ex (h1 := { h with sh := false }) (fun _ _ => by kernel_rfl) (fun _ _ => by kernel_rfl) rfl (fun W s' hW hb => admitting_any hW hi8 13 eo en el eb ei ec es er ew ex (et := et) (q := q) (cq := cq) F.ba F.ix) (fun W s' hW hb => admitted_any hW hi8 13 eo en el eb ei ec es er ew ex (et := et) (q := q) (cq := cq) hix)).mono ?_
  rintro r w' ⟨rfl, h2, h3⟩
  refine ⟨by unfold stv; rw [e1]; rfl, ?_, h3⟩
  rw [e2]
  exact h2
set_option maxHeartbeats 1000000 in
theorem nx_14 (H : Hm w B b h s) (h0 : w0.heap.size ≤ B) (hb0 : Below w0.heap.size w0 w) {N : Nat} (hok : h.ok N) (hN : N ≤ 65536) {i : Nat} (hi8 : i < 8) (eo en el eb ei ec es er ew : Int) (ex : ByteArray) {et : List ByteArray} {q : Option Addr} {cq : Nat} (HV : ∀ W, Below w0.heap.size w0 W → Tx W (.slice q et.length cq) et) (F : Ev.fit ⟨14, eo, en, el, (i : Int) + 1, eb, ei, ec, es, er, ew, ex, et⟩) :
    Calls Try.prog 20 #[.pointer (some ⟨b, 0, none⟩), .agg #[.bool true, .bool false, .func (.func 47) #[] #[], .func (.func 48) #[] #[]], .agg #[.int .i64 14, .int .i64 eo, .int .i64 en, .int .i64 el, .int .i64 ((i : Int) + 1), .int .i64 eb, .int .i64 ei, .int .i64 ec, .int .i64 es, .int .i64 er, .int .u64 ew, .string ex, .slice q et.length cq]] w fun r w' => r = .returned (stv h ⟨14, eo, en, el, (i : Int) + 1, eb, ei, ec, es, er, ew, ex, et⟩) ∧ (∃ s', Hm w' B b (stp h ⟨14, eo, en, el, (i : Int) + 1, eb, ei, ec, es, er, ew, ex, et⟩) s') ∧ Kt B w w' := by
  have _q1 := HV
  have _q2 := F
  have _q4 := hi8
  have hlg := hok.lg1 hN
  have hlg1 : ∀ j ∈ (h : Hs).jobs, j.lg.length ≤ 1099511627776 := hlg
  have e2 : stp h ⟨14, eo, en, el, (i : Int) + 1, eb, ei, ec, es, er, ew, ex, et⟩ = bhdA (h) ⟨14, eo, en, el, (i : Int) + 1, eb, ei, ec, es, er, ew, ex, et⟩ i := by
    unfold stp pre
    rw [jix_nr]; rfl
  have e1 : stR h ⟨14, eo, en, el, (i : Int) + 1, eb, ei, ec, es, er, ew, ex, et⟩ = { brkA (h) ⟨14, eo, en, el, (i : Int) + 1, eb, ei, ec, es, er, ew, ex, et⟩ i with a8 := (brkA (h) ⟨14, eo, en, el, (i : Int) + 1, eb, ei, ec, es, er, ew, ex, et⟩ i).a8 || (decide ((14 : Int) ≠ 14) && msg h) } := by
    unfold stR pre
    rw [jix_nr]; rfl
  refine (next_of H h0 hb0 true false 47 48 eo en el ((i : Int) + 1) eb ei ec es er ew ex (h1 := h) (fun _ _ => by kernel_rfl) (fun _ _ => by kernel_rfl) rfl (fun W s' hW hb => showing_any hW hi8 14 eo en el eb ei ec es er ew ex (HV W hb) F.ts F.ba F.rt F.rb hok.up hlg) (fun W s' hW hb => shown_any hW hi8 14 eo en el eb ei ec es er ew ex (HV W hb) F.ts)).mono ?_
  rintro r w' ⟨rfl, h2, h3⟩
  refine ⟨by unfold stv; rw [e1]; rfl, ?_, h3⟩
  rw [e2]
  exact h2
end
end Go.Proofs.Ytjfgmdiafhkbgaa
