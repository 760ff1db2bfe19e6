import Derived.Test.YtjfgmdiafhkbgaaAuH
namespace Go.Proofs.Ytjfgmdiafhkbgaa
open Go.RowKit Go.MapKept
set_option maxRecDepth 8000

/-- which rules are broken -/
abbrev rul (a1 a2 a3 a4 a5 a6 a7 a8 : Bool) : Value := .agg #[.bool false, .bool a1, .bool a2, .bool a3, .bool a4, .bool a5, .bool a6, .bool a7, .bool a8]
/-- an event and the rules beside it, new -/
structure Bx (w W : World) (E R : Array Value) : Prop where
  below : Below w.heap.size w W
  ev : W.heap[w.heap.size]? = some (.cells E 43 (0, 0))
  ru : W.heap[w.heap.size + 1]? = some (.cells R 60 (0, 0))
theorem Bx.start (w : World) (E R : Array Value) : Bx w ((w.alloc (.cells E 43)).alloc (.cells R 60)) E R := by
  have h1 := heap_alloc_new w (.cells E 43)
  have h2 := heap_alloc_new (w.alloc (.cells E 43)) (.cells R 60)
  rw [World.size_alloc] at h2
  exact ⟨below_of (below_alloc _ _) (below_alloc _ _), (Below.heap_alloc _ _ _ (lt_of_block h1)).trans h1, h2⟩
theorem Bx.low {w W W' : World} {E R : Array Value} (h : Bx w W E R) (hb : Below W.heap.size W W') : Bx w W' E R :=
  ⟨below_of h.below hb, (hb.block _ (lt_of_block h.ev)).trans h.ev, (hb.block _ (lt_of_block h.ru)).trans h.ru⟩
theorem Bx.drewN {w W : World} {E R : Array Value} (h : Bx w W E R) (n : Nat) : Bx w (W.drewN n) E R := h.low (below_drewN (Below.refl _ _) n)
theorem Bx.set {w W : World} {E R : Array Value} (h : Bx w W E R) (k : Nat) (v : Value) : Bx w (W.setCell ⟨w.heap.size + 1, k, none⟩ v) E (R.setIfInBounds k v) :=
  ⟨h.below.setCell (by show w.heap.size ≤ w.heap.size + 1; omega) v, (Below.heap_setCell _ ⟨w.heap.size + 1, k, none⟩ _ _ (by show w.heap.size ≠ w.heap.size + 1; omega)).trans h.ev, heap_setCell_same W _ k R _ v h.ru⟩
theorem results_c1 {fn : Func} {p : Tmp} {ty : TypeId} (h : fn.results = #[.cell p ty]) (tmps : Array Value) (P : Program) (w : World) :
    (results fn tmps).run P w = ((asAddr (tmps.getD p undef)).run P w).andThen fun a w₁ => (loadVar ty a).run P w₁ := by
  simp only [results, h]
  simp [Sem.run_bind, Result.andThen]
theorem set_same {V : World} {g k : Nat} {cs : Array Value} {t : TypeId} {c : Value} (h : V.heap[g]? = some (.cells cs t (0, 0))) (hk : cs[k]? = some c) : (V.setCell ⟨g, k, none⟩ c).heap[g]? = some (.cells cs t (0, 0)) := by
  have e : cs.setIfInBounds k c = cs := by
    apply Array.ext'
    rw [Array.toList_setIfInBounds]
    exact WideElems.set_self _ _ _ (by rw [Array.getElem?_toList]; exact hk)
  have := heap_setCell_same V g k cs t c h
  rwa [e] at this
theorem put9 {V : World} {g : Nat} {c0 c1 c2 c3 c4 c5 c6 c7 c8 : Value} (h : V.heap[g]? = some (.cells #[c0, c1, c2, c3, c4, c5, c6, c7, c8] 60 (0, 0))) : (((((((((V.setCell ⟨g, 0, none⟩ c0).setCell ⟨g, 1, none⟩ c1).setCell ⟨g, 2, none⟩ c2).setCell ⟨g, 3, none⟩ c3).setCell ⟨g, 4, none⟩ c4).setCell ⟨g, 5, none⟩ c5).setCell ⟨g, 6, none⟩ c6).setCell ⟨g, 7, none⟩ c7).setCell ⟨g, 8, none⟩ c8).heap[g]? = some (.cells #[c0, c1, c2, c3, c4, c5, c6, c7, c8] 60 (0, 0)) :=
  set_same (set_same (set_same (set_same (set_same (set_same (set_same (set_same (set_same h rfl) rfl) rfl) rfl) rfl) rfl) rfl) rfl) rfl
theorem below9 {V u : World} {g n : Nat} {c0 c1 c2 c3 c4 c5 c6 c7 c8 : Value} (h : Below n u V) (hg : n ≤ g) : Below n u (((((((((V.setCell ⟨g, 0, none⟩ c0).setCell ⟨g, 1, none⟩ c1).setCell ⟨g, 2, none⟩ c2).setCell ⟨g, 3, none⟩ c3).setCell ⟨g, 4, none⟩ c4).setCell ⟨g, 5, none⟩ c5).setCell ⟨g, 6, none⟩ c6).setCell ⟨g, 7, none⟩ c7).setCell ⟨g, 8, none⟩ c8) :=
  (Below.setCell (Below.setCell (Below.setCell (Below.setCell (Below.setCell (Below.setCell (Below.setCell (Below.setCell (Below.setCell h (p := ⟨g, 0, none⟩) hg c0) (p := ⟨g, 1, none⟩) hg c1) (p := ⟨g, 2, none⟩) hg c2) (p := ⟨g, 3, none⟩) hg c3) (p := ⟨g, 4, none⟩) hg c4) (p := ⟨g, 5, none⟩) hg c5) (p := ⟨g, 6, none⟩) hg c6) (p := ⟨g, 7, none⟩) hg c7) (p := ⟨g, 8, none⟩) hg c8)
theorem results_rul {fn : Func} {p : Tmp} (h : fn.results = #[.cell p 60]) (tmps : Array Value) (w : World) (g : Nat) (cs : Array Value) (hp : tmps.getD p undef = .pointer (some ⟨g, 0, none⟩)) (hg : w.heap[g]? = some (.cells cs 60 (0, 0))) (hc : cs.size = 9) :
    (results fn tmps).run Try.prog w = .ok (.agg cs) w := by
  have he := run_loadVar_row (P := Try.prog) w g 60 60 cs (0, 0) _ hg Try.underlying60 rfl (by rw [hc]; kernel_rfl)
  rw [results_c1 h, hp]
  simpa [asAddr, Result.andThen] using he
section
variable {w w' : World} {B b : Nat} {h : Hs} {s : Hi} {i : Nat}
set_option maxHeartbeats 400000 in
theorem submitting_any (H : Hm w B b h s) (hi8 : i < 8) (ek eo en el : Int) (eb ei ec es er ew : Int) (ex : ByteArray) {et : List ByteArray} {q : Option Addr} {cq : Nat} :
    Calls Try.prog 29 #[.pointer (some ⟨b, 0, none⟩), .agg #[.int .i64 ek, .int .i64 eo, .int .i64 en, .int .i64 el, .int .i64 ((i : Int) + 1), .int .i64 eb, .int .i64 ei, .int .i64 ec, .int .i64 es, .int .i64 er, .int .u64 ew, .string ex, .slice q et.length cq]] w fun r w' => r = .returned (rul false false false false false false false (!nxt h i)) ∧ Below w.heap.size w w' := by
  have HX := hide (Bx.start w #[.int .i64 ek, .int .i64 eo, .int .i64 en, .int .i64 el, .int .i64 ((i : Int) + 1), .int .i64 eb, .int .i64 ei, .int .i64 ec, .int .i64 es, .int .i64 er, .int .u64 ew, .string ex, .slice q et.length cq] #[.bool false, .bool false, .bool false, .bool false, .bool false, .bool false, .bool false, .bool false, .bool false])
  have H0 := hide H
  have l8 := H.l8
  have hbl : b < w.heap.size := H.lt
  have i8 : (i : Int) ≤ 8 := by omega
  have hji : i64 ((i : Int) + 1) := i64_of (by omega)
  clear H
  go_enter Try.func29, Try.ntmps29
  go_wp2_with fail
  refine (isNext_any (H0.out.below HX.out.below) i).mono ?_
  rintro e w1 ⟨rfl, hb⟩
  have HX1 := hide (HX.out.low hb)
  have x4 : w1.cell? ⟨w.heap.size, 4, none⟩ = some (.int .i64 ((i : Int) + 1)) := by simp [World.cell?, HX1.out.ev]
  have y0 : w1.cell? ⟨w.heap.size + 1, 0, none⟩ = some (.bool false) := by simp [World.cell?, HX1.out.ru]
  have y1 : w1.cell? ⟨w.heap.size + 1, 1, none⟩ = some (.bool false) := by simp [World.cell?, HX1.out.ru]
  have y2 : w1.cell? ⟨w.heap.size + 1, 2, none⟩ = some (.bool false) := by simp [World.cell?, HX1.out.ru]
  have y3 : w1.cell? ⟨w.heap.size + 1, 3, none⟩ = some (.bool false) := by simp [World.cell?, HX1.out.ru]
  have y4 : w1.cell? ⟨w.heap.size + 1, 4, none⟩ = some (.bool false) := by simp [World.cell?, HX1.out.ru]
  have y5 : w1.cell? ⟨w.heap.size + 1, 5, none⟩ = some (.bool false) := by simp [World.cell?, HX1.out.ru]
  have y6 : w1.cell? ⟨w.heap.size + 1, 6, none⟩ = some (.bool false) := by simp [World.cell?, HX1.out.ru]
  have y7 : w1.cell? ⟨w.heap.size + 1, 7, none⟩ = some (.bool false) := by simp [World.cell?, HX1.out.ru]
  have y8 : w1.cell? ⟨w.heap.size + 1, 8, none⟩ = some (.bool false) := by simp [World.cell?, HX1.out.ru]
  have yz : ∀ k, w1.frozen? ⟨w.heap.size + 1, k, none⟩ = false := fun k => by simp [World.frozen?, HX1.out.ru]
  clear hb
  have HX2 := hide (HX1.out.set 8 (.bool (!nxt h i)))
  go_upto_region 2 with (fail)
  obtain ⟨V, hV⟩ : ∃ V, w1.setCell ⟨w.heap.size + 1, 8, none⟩ (.bool (!nxt h i)) = V := ⟨_, rfl⟩
  rw [hV] at HX2 ⊢
  clear hV
  clear y0 y1 y2 y3 y4 y5 y6 y7 y8 yz
  have y0 : V.cell? ⟨w.heap.size + 1, 0, none⟩ = some (.bool false) := by simp [World.cell?, HX2.out.ru]
  have y1 : V.cell? ⟨w.heap.size + 1, 1, none⟩ = some (.bool false) := by simp [World.cell?, HX2.out.ru]
  have y2 : V.cell? ⟨w.heap.size + 1, 2, none⟩ = some (.bool false) := by simp [World.cell?, HX2.out.ru]
  have y3 : V.cell? ⟨w.heap.size + 1, 3, none⟩ = some (.bool false) := by simp [World.cell?, HX2.out.ru]
  have y4 : V.cell? ⟨w.heap.size + 1, 4, none⟩ = some (.bool false) := by simp [World.cell?, HX2.out.ru]
  have y5 : V.cell? ⟨w.heap.size + 1, 5, none⟩ = some (.bool false) := by simp [World.cell?, HX2.out.ru]
  have y6 : V.cell? ⟨w.heap.size + 1, 6, none⟩ = some (.bool false) := by simp [World.cell?, HX2.out.ru]
  have y7 : V.cell? ⟨w.heap.size + 1, 7, none⟩ = some (.bool false) := by simp [World.cell?, HX2.out.ru]
  have y8 : V.cell? ⟨w.heap.size + 1, 8, none⟩ = some (.bool (!nxt h i)) := by simp [World.cell?, HX2.out.ru]
  have yz : ∀ k, V.frozen? ⟨w.heap.size + 1, k, none⟩ = false := fun k => by simp [World.frozen?, HX2.out.ru]
  have hru : V.heap[w.heap.size + 1]? = some (.cells #[.bool false, .bool false, .bool false, .bool false, .bool false, .bool false, .bool false, .bool false, .bool (!nxt h i)] 60 (0, 0)) := by simpa using HX2.out.ru
  have HR9 := hide (put9 hru)
  have HB9 := hide (below9 (c0 := .bool false) (c1 := .bool false) (c2 := .bool false) (c3 := .bool false) (c4 := .bool false) (c5 := .bool false) (c6 := .bool false) (c7 := .bool false) (c8 := .bool (!nxt h i)) HX2.out.below (Nat.le_succ _))
  clear hru
  go_wp2_with fail
  refine bodyPost_ret (results_rul (fn := Try.f29) rfl _ _ (w.heap.size + 1) #[.bool false, .bool false, .bool false, .bool false, .bool false, .bool false, .bool false, .bool false, .bool (!nxt h i)] rfl HR9.out rfl) rfl ?_
  exact ⟨rfl, HB9.out⟩
set_option maxHeartbeats 400000 in
theorem expiring_any (H : Hm w B b h s) (hi8 : i < 8) (ek eo en el : Int) (eb ei ec es er ew : Int) (ex : ByteArray) {et : List ByteArray} {q : Option Addr} {cq : Nat} :
    Calls Try.prog 34 #[.pointer (some ⟨b, 0, none⟩), .agg #[.int .i64 ek, .int .i64 eo, .int .i64 en, .int .i64 el, .int .i64 ((i : Int) + 1), .int .i64 eb, .int .i64 ei, .int .i64 ec, .int .i64 es, .int .i64 er, .int .u64 ew, .string ex, .slice q et.length cq]] w fun r w' => r = .returned (rul false false false (!hld h i eb) false false false false) ∧ Below w.heap.size w w' := by
  have HX := hide (Bx.start w #[.int .i64 ek, .int .i64 eo, .int .i64 en, .int .i64 el, .int .i64 ((i : Int) + 1), .int .i64 eb, .int .i64 ei, .int .i64 ec, .int .i64 es, .int .i64 er, .int .u64 ew, .string ex, .slice q et.length cq] #[.bool false, .bool false, .bool false, .bool false, .bool false, .bool false, .bool false, .bool false, .bool false])
  have H0 := hide H
  have l8 := H.l8
  have hbl : b < w.heap.size := H.lt
  have i8 : (i : Int) ≤ 8 := by omega
  have hji : i64 ((i : Int) + 1) := i64_of (by omega)
  clear H
  go_enter Try.func34, Try.ntmps34
  go_wp2_with fail
  refine (held_any (H0.out.below HX.out.below) i eb).mono ?_
  rintro e w1 ⟨rfl, hb⟩
  have HX1 := hide (HX.out.low hb)
  have x4 : w1.cell? ⟨w.heap.size, 4, none⟩ = some (.int .i64 ((i : Int) + 1)) := by simp [World.cell?, HX1.out.ev]
  have x5 : w1.cell? ⟨w.heap.size, 5, none⟩ = some (.int .i64 eb) := by simp [World.cell?, HX1.out.ev]
  have y0 : w1.cell? ⟨w.heap.size + 1, 0, none⟩ = some (.bool false) := by simp [World.cell?, HX1.out.ru]
  have y1 : w1.cell? ⟨w.heap.size + 1, 1, none⟩ = some (.bool false) := by simp [World.cell?, HX1.out.ru]
  have y2 : w1.cell? ⟨w.heap.size + 1, 2, none⟩ = some (.bool false) := by simp [World.cell?, HX1.out.ru]
  have y3 : w1.cell? ⟨w.heap.size + 1, 3, none⟩ = some (.bool false) := by simp [World.cell?, HX1.out.ru]
  have y4 : w1.cell? ⟨w.heap.size + 1, 4, none⟩ = some (.bool false) := by simp [World.cell?, HX1.out.ru]
  have y5 : w1.cell? ⟨w.heap.size + 1, 5, none⟩ = some (.bool false) := by simp [World.cell?, HX1.out.ru]
  have y6 : w1.cell? ⟨w.heap.size + 1, 6, none⟩ = some (.bool false) := by simp [World.cell?, HX1.out.ru]
  have y7 : w1.cell? ⟨w.heap.size + 1, 7, none⟩ = some (.bool false) := by simp [World.cell?, HX1.out.ru]
  have y8 : w1.cell? ⟨w.heap.size + 1, 8, none⟩ = some (.bool false) := by simp [World.cell?, HX1.out.ru]
  have yz : ∀ k, w1.frozen? ⟨w.heap.size + 1, k, none⟩ = false := fun k => by simp [World.frozen?, HX1.out.ru]
  clear hb
  have HX2 := hide (HX1.out.set 4 (.bool (!hld h i eb)))
  go_upto_region 2 with (fail)
  obtain ⟨V, hV⟩ : ∃ V, w1.setCell ⟨w.heap.size + 1, 4, none⟩ (.bool (!hld h i eb)) = V := ⟨_, rfl⟩
  rw [hV] at HX2 ⊢
  clear hV
  clear y0 y1 y2 y3 y4 y5 y6 y7 y8 yz
  have y0 : V.cell? ⟨w.heap.size + 1, 0, none⟩ = some (.bool false) := by simp [World.cell?, HX2.out.ru]
  have y1 : V.cell? ⟨w.heap.size + 1, 1, none⟩ = some (.bool false) := by simp [World.cell?, HX2.out.ru]
  have y2 : V.cell? ⟨w.heap.size + 1, 2, none⟩ = some (.bool false) := by simp [World.cell?, HX2.out.ru]
  have y3 : V.cell? ⟨w.heap.size + 1, 3, none⟩ = some (.bool false) := by simp [World.cell?, HX2.out.ru]
  have y4 : V.cell? ⟨w.heap.size + 1, 4, none⟩ = some (.bool (!hld h i eb)) := by simp [World.cell?, HX2.out.ru]
  have y5 : V.cell? ⟨w.heap.size + 1, 5, none⟩ = some (.bool false) := by simp [World.cell?, HX2.out.ru]
  have y6 : V.cell? ⟨w.heap.size + 1, 6, none⟩ = some (.bool false) := by simp [World.cell?, HX2.out.ru]
  have y7 : V.cell? ⟨w.heap.size + 1, 7, none⟩ = some (.bool false) := by simp [World.cell?, HX2.out.ru]
  have y8 : V.cell? ⟨w.heap.size + 1, 8, none⟩ = some (.bool false) := by simp [World.cell?, HX2.out.ru]
  have yz : ∀ k, V.frozen? ⟨w.heap.size + 1, k, none⟩ = false := fun k => by simp [World.frozen?, HX2.out.ru]
  have hru : V.heap[w.heap.size + 1]? = some (.cells #[.bool false, .bool false, .bool false, .bool false, .bool (!hld h i eb), .bool false, .bool false, .bool false, .bool false] 60 (0, 0)) := by simpa using HX2.out.ru
  have HR9 := hide (put9 hru)
  have HB9 := hide (below9 (c0 := .bool false) (c1 := .bool false) (c2 := .bool false) (c3 := .bool false) (c4 := .bool (!hld h i eb)) (c5 := .bool false) (c6 := .bool false) (c7 := .bool false) (c8 := .bool false) HX2.out.below (Nat.le_succ _))
  clear hru
  go_wp2_with fail
  refine bodyPost_ret (results_rul (fn := Try.f34) rfl _ _ (w.heap.size + 1) #[.bool false, .bool false, .bool false, .bool false, .bool (!hld h i eb), .bool false, .bool false, .bool false, .bool false] rfl HR9.out rfl) rfl ?_
  exact ⟨rfl, HB9.out⟩
set_option maxHeartbeats 400000 in
theorem losing_any (H : Hm w B b h s) (hi8 : i < 8) (ek eo en el : Int) (eb ei ec es er ew : Int) (ex : ByteArray) {et : List ByteArray} {q : Option Addr} {cq : Nat} :
    Calls Try.prog 36 #[.pointer (some ⟨b, 0, none⟩), .agg #[.int .i64 ek, .int .i64 eo, .int .i64 en, .int .i64 el, .int .i64 ((i : Int) + 1), .int .i64 eb, .int .i64 ei, .int .i64 ec, .int .i64 es, .int .i64 er, .int .u64 ew, .string ex, .slice q et.length cq]] w fun r w' => r = .returned (rul (stl h i) false false (!stl h i && !hld h i eb) false false false false) ∧ Below w.heap.size w w' := by
  have HX := hide (Bx.start w #[.int .i64 ek, .int .i64 eo, .int .i64 en, .int .i64 el, .int .i64 ((i : Int) + 1), .int .i64 eb, .int .i64 ei, .int .i64 ec, .int .i64 es, .int .i64 er, .int .u64 ew, .string ex, .slice q et.length cq] #[.bool false, .bool false, .bool false, .bool false, .bool false, .bool false, .bool false, .bool false, .bool false])
  have H0 := hide H
  have l8 := H.l8
  have hbl : b < w.heap.size := H.lt
  have i8 : (i : Int) ≤ 8 := by omega
  have hji : i64 ((i : Int) + 1) := i64_of (by omega)
  clear H
  cases hst : stl h i with
  | true =>
    have HC : ∀ W, Below w.heap.size w W → Calls Try.prog 63 #[.pointer (some ⟨b, 0, none⟩), nr i] W fun e w' => e = .returned (.bool true) ∧ Below W.heap.size W w' := fun W hb => (by have := settled_any (H0.out.below hb) i; rwa [hst] at this)
    have HCh := hide HC
    clear HC hst
    go_enter Try.func36, Try.ntmps36
    go_wp2_with fail
    refine (HCh.out _ HX.out.below).mono ?_
    rintro e w1 ⟨rfl, hb⟩
    have HX1 := hide (HX.out.low hb)
    have x4 : w1.cell? ⟨w.heap.size, 4, none⟩ = some (.int .i64 ((i : Int) + 1)) := by simp [World.cell?, HX1.out.ev]
    have x5 : w1.cell? ⟨w.heap.size, 5, none⟩ = some (.int .i64 eb) := by simp [World.cell?, HX1.out.ev]
    have y0 : w1.cell? ⟨w.heap.size + 1, 0, none⟩ = some (.bool false) := by simp [World.cell?, HX1.out.ru]
    have y1 : w1.cell? ⟨w.heap.size + 1, 1, none⟩ = some (.bool false) := by simp [World.cell?, HX1.out.ru]
    have y2 : w1.cell? ⟨w.heap.size + 1, 2, none⟩ = some (.bool false) := by simp [World.cell?, HX1.out.ru]
    have y3 : w1.cell? ⟨w.heap.size + 1, 3, none⟩ = some (.bool false) := by simp [World.cell?, HX1.out.ru]
    have y4 : w1.cell? ⟨w.heap.size + 1, 4, none⟩ = some (.bool false) := by simp [World.cell?, HX1.out.ru]
    have y5 : w1.cell? ⟨w.heap.size + 1, 5, none⟩ = some (.bool false) := by simp [World.cell?, HX1.out.ru]
    have y6 : w1.cell? ⟨w.heap.size + 1, 6, none⟩ = some (.bool false) := by simp [World.cell?, HX1.out.ru]
    have y7 : w1.cell? ⟨w.heap.size + 1, 7, none⟩ = some (.bool false) := by simp [World.cell?, HX1.out.ru]
    have y8 : w1.cell? ⟨w.heap.size + 1, 8, none⟩ = some (.bool false) := by simp [World.cell?, HX1.out.ru]
    have yz : ∀ k, w1.frozen? ⟨w.heap.size + 1, k, none⟩ = false := fun k => by simp [World.frozen?, HX1.out.ru]
    clear hb
    have HX2 := hide (HX1.out.set 1 (.bool true))
    go_wp2_with fail
    refine (HCh.out _ HX2.out.below).mono ?_
    rintro e w3 ⟨rfl, hb⟩
    have HX3 := hide (HX2.out.low hb)
    have x4 : w3.cell? ⟨w.heap.size, 4, none⟩ = some (.int .i64 ((i : Int) + 1)) := by simp [World.cell?, HX3.out.ev]
    have x5 : w3.cell? ⟨w.heap.size, 5, none⟩ = some (.int .i64 eb) := by simp [World.cell?, HX3.out.ev]
    have y0 : w3.cell? ⟨w.heap.size + 1, 0, none⟩ = some (.bool false) := by simp [World.cell?, HX3.out.ru]
    have y1 : w3.cell? ⟨w.heap.size + 1, 1, none⟩ = some (.bool true) := by simp [World.cell?, HX3.out.ru]
    have y2 : w3.cell? ⟨w.heap.size + 1, 2, none⟩ = some (.bool false) := by simp [World.cell?, HX3.out.ru]
    have y3 : w3.cell? ⟨w.heap.size + 1, 3, none⟩ = some (.bool false) := by simp [World.cell?, HX3.out.ru]
    have y4 : w3.cell? ⟨w.heap.size + 1, 4, none⟩ = some (.bool false) := by simp [World.cell?, HX3.out.ru]
    have y5 : w3.cell? ⟨w.heap.size + 1, 5, none⟩ = some (.bool false) := by simp [World.cell?, HX3.out.ru]
    have y6 : w3.cell? ⟨w.heap.size + 1, 6, none⟩ = some (.bool false) := by simp [World.cell?, HX3.out.ru]
    have y7 : w3.cell? ⟨w.heap.size + 1, 7, none⟩ = some (.bool false) := by simp [World.cell?, HX3.out.ru]
    have y8 : w3.cell? ⟨w.heap.size + 1, 8, none⟩ = some (.bool false) := by simp [World.cell?, HX3.out.ru]
    have yz : ∀ k, w3.frozen? ⟨w.heap.size + 1, k, none⟩ = false := fun k => by simp [World.frozen?, HX3.out.ru]
    clear hb
    have HX4 := hide (HX3.out.set 4 (.bool false))
    go_upto_region 3 with (fail)
    obtain ⟨V, hV⟩ : ∃ V, w3.setCell ⟨w.heap.size + 1, 4, none⟩ (.bool false) = V := ⟨_, rfl⟩
    rw [hV] at HX4 ⊢
    clear hV
    clear y0 y1 y2 y3 y4 y5 y6 y7 y8 yz
    have y0 : V.cell? ⟨w.heap.size + 1, 0, none⟩ = some (.bool false) := by simp [World.cell?, HX4.out.ru]
    have y1 : V.cell? ⟨w.heap.size + 1, 1, none⟩ = some (.bool true) := by simp [World.cell?, HX4.out.ru]
    have y2 : V.cell? ⟨w.heap.size + 1, 2, none⟩ = some (.bool false) := by simp [World.cell?, HX4.out.ru]
    have y3 : V.cell? ⟨w.heap.size + 1, 3, none⟩ = some (.bool false) := by simp [World.cell?, HX4.out.ru]
    have y4 : V.cell? ⟨w.heap.size + 1, 4, none⟩ = some (.bool false) := by simp [World.cell?, HX4.out.ru]
    have y5 : V.cell? ⟨w.heap.size + 1, 5, none⟩ = some (.bool false) := by simp [World.cell?, HX4.out.ru]
    have y6 : V.cell? ⟨w.heap.size + 1, 6, none⟩ = some (.bool false) := by simp [World.cell?, HX4.out.ru]
    have y7 : V.cell? ⟨w.heap.size + 1, 7, none⟩ = some (.bool false) := by simp [World.cell?, HX4.out.ru]
    have y8 : V.cell? ⟨w.heap.size + 1, 8, none⟩ = some (.bool false) := by simp [World.cell?, HX4.out.ru]
    have yz : ∀ k, V.frozen? ⟨w.heap.size + 1, k, none⟩ = false := fun k => by simp [World.frozen?, HX4.out.ru]
    have hru : V.heap[w.heap.size + 1]? = some (.cells #[.bool false, .bool true, .bool false, .bool false, .bool false, .bool false, .bool false, .bool false, .bool false] 60 (0, 0)) := by simpa using HX4.out.ru
    have HR9 := hide (put9 hru)
    have HB9 := hide (below9 (c0 := .bool false) (c1 := .bool true) (c2 := .bool false) (c3 := .bool false) (c4 := .bool false) (c5 := .bool false) (c6 := .bool false) (c7 := .bool false) (c8 := .bool false) HX4.out.below (Nat.le_succ _))
    clear hru
    go_wp2_with fail
    refine bodyPost_ret (results_rul (fn := Try.f36) rfl _ _ (w.heap.size + 1) #[.bool false, .bool true, .bool false, .bool false, .bool false, .bool false, .bool false, .bool false, .bool false] rfl HR9.out rfl) rfl ?_
    exact ⟨rfl, HB9.out⟩
  | false =>
    have HC : ∀ W, Below w.heap.size w W → Calls Try.prog 63 #[.pointer (some ⟨b, 0, none⟩), nr i] W fun e w' => e = .returned (.bool false) ∧ Below W.heap.size W w' := fun W hb => (by have := settled_any (H0.out.below hb) i; rwa [hst] at this)
    have HCh := hide HC
    clear HC hst
    go_enter Try.func36, Try.ntmps36
    go_wp2_with fail
    refine (HCh.out _ HX.out.below).mono ?_
    rintro e w1 ⟨rfl, hb⟩
    have HX1 := hide (HX.out.low hb)
    have x4 : w1.cell? ⟨w.heap.size, 4, none⟩ = some (.int .i64 ((i : Int) + 1)) := by simp [World.cell?, HX1.out.ev]
    have x5 : w1.cell? ⟨w.heap.size, 5, none⟩ = some (.int .i64 eb) := by simp [World.cell?, HX1.out.ev]
    have y0 : w1.cell? ⟨w.heap.size + 1, 0, none⟩ = some (.bool false) := by simp [World.cell?, HX1.out.ru]
    have y1 : w1.cell? ⟨w.heap.size + 1, 1, none⟩ = some (.bool false) := by simp [World.cell?, HX1.out.ru]
    have y2 : w1.cell? ⟨w.heap.size + 1, 2, none⟩ = some (.bool false) := by simp [World.cell?, HX1.out.ru]
    have y3 : w1.cell? ⟨w.heap.size + 1, 3, none⟩ = some (.bool false) := by simp [World.cell?, HX1.out.ru]
    have y4 : w1.cell? ⟨w.heap.size + 1, 4, none⟩ = some (.bool false) := by simp [World.cell?, HX1.out.ru]
    have y5 : w1.cell? ⟨w.heap.size + 1, 5, none⟩ = some (.bool false) := by simp [World.cell?, HX1.out.ru]
    have y6 : w1.cell? ⟨w.heap.size + 1, 6, none⟩ = some (.bool false) := by simp [World.cell?, HX1.out.ru]
    have y7 : w1.cell? ⟨w.heap.size + 1, 7, none⟩ = some (.bool false) := by simp [World.cell?, HX1.out.ru]
    have y8 : w1.cell? ⟨w.heap.size + 1, 8, none⟩ = some (.bool false) := by simp [World.cell?, HX1.out.ru]
    have yz : ∀ k, w1.frozen? ⟨w.heap.size + 1, k, none⟩ = false := fun k => by simp [World.frozen?, HX1.out.ru]
    clear hb
    have HX2 := hide (HX1.out.set 1 (.bool false))
    go_wp2_with fail
    refine (HCh.out _ HX2.out.below).mono ?_
    rintro e w3 ⟨rfl, hb⟩
    have HX3 := hide (HX2.out.low hb)
    have x4 : w3.cell? ⟨w.heap.size, 4, none⟩ = some (.int .i64 ((i : Int) + 1)) := by simp [World.cell?, HX3.out.ev]
    have x5 : w3.cell? ⟨w.heap.size, 5, none⟩ = some (.int .i64 eb) := by simp [World.cell?, HX3.out.ev]
    have y0 : w3.cell? ⟨w.heap.size + 1, 0, none⟩ = some (.bool false) := by simp [World.cell?, HX3.out.ru]
    have y1 : w3.cell? ⟨w.heap.size + 1, 1, none⟩ = some (.bool false) := by simp [World.cell?, HX3.out.ru]
    have y2 : w3.cell? ⟨w.heap.size + 1, 2, none⟩ = some (.bool false) := by simp [World.cell?, HX3.out.ru]
    have y3 : w3.cell? ⟨w.heap.size + 1, 3, none⟩ = some (.bool false) := by simp [World.cell?, HX3.out.ru]
    have y4 : w3.cell? ⟨w.heap.size + 1, 4, none⟩ = some (.bool false) := by simp [World.cell?, HX3.out.ru]
    have y5 : w3.cell? ⟨w.heap.size + 1, 5, none⟩ = some (.bool false) := by simp [World.cell?, HX3.out.ru]
    have y6 : w3.cell? ⟨w.heap.size + 1, 6, none⟩ = some (.bool false) := by simp [World.cell?, HX3.out.ru]
    have y7 : w3.cell? ⟨w.heap.size + 1, 7, none⟩ = some (.bool false) := by simp [World.cell?, HX3.out.ru]
    have y8 : w3.cell? ⟨w.heap.size + 1, 8, none⟩ = some (.bool false) := by simp [World.cell?, HX3.out.ru]
    have yz : ∀ k, w3.frozen? ⟨w.heap.size + 1, k, none⟩ = false := fun k => by simp [World.frozen?, HX3.out.ru]
    clear hb
    go_wp2_with fail
    refine (held_any (H0.out.below HX3.out.below) i eb).mono ?_
    rintro e w4 ⟨rfl, hb⟩
    have HX4 := hide (HX3.out.low hb)
    have x4 : w4.cell? ⟨w.heap.size, 4, none⟩ = some (.int .i64 ((i : Int) + 1)) := by simp [World.cell?, HX4.out.ev]
    have x5 : w4.cell? ⟨w.heap.size, 5, none⟩ = some (.int .i64 eb) := by simp [World.cell?, HX4.out.ev]
    have y0 : w4.cell? ⟨w.heap.size + 1, 0, none⟩ = some (.bool false) := by simp [World.cell?, HX4.out.ru]
    have y1 : w4.cell? ⟨w.heap.size + 1, 1, none⟩ = some (.bool false) := by simp [World.cell?, HX4.out.ru]
    have y2 : w4.cell? ⟨w.heap.size + 1, 2, none⟩ = some (.bool false) := by simp [World.cell?, HX4.out.ru]
    have y3 : w4.cell? ⟨w.heap.size + 1, 3, none⟩ = some (.bool false) := by simp [World.cell?, HX4.out.ru]
    have y4 : w4.cell? ⟨w.heap.size + 1, 4, none⟩ = some (.bool false) := by simp [World.cell?, HX4.out.ru]
    have y5 : w4.cell? ⟨w.heap.size + 1, 5, none⟩ = some (.bool false) := by simp [World.cell?, HX4.out.ru]
    have y6 : w4.cell? ⟨w.heap.size + 1, 6, none⟩ = some (.bool false) := by simp [World.cell?, HX4.out.ru]
    have y7 : w4.cell? ⟨w.heap.size + 1, 7, none⟩ = some (.bool false) := by simp [World.cell?, HX4.out.ru]
    have y8 : w4.cell? ⟨w.heap.size + 1, 8, none⟩ = some (.bool false) := by simp [World.cell?, HX4.out.ru]
    have yz : ∀ k, w4.frozen? ⟨w.heap.size + 1, k, none⟩ = false := fun k => by simp [World.frozen?, HX4.out.ru]
    clear hb
    have HX5 := hide (HX4.out.set 4 (.bool (!hld h i eb)))
    go_upto_region 3 with (fail)
    obtain ⟨V, hV⟩ : ∃ V, w4.setCell ⟨w.heap.size + 1, 4, none⟩ (.bool (!hld h i eb)) = V := ⟨_, rfl⟩
    rw [hV] at HX5 ⊢
    clear hV
    clear y0 y1 y2 y3 y4 y5 y6 y7 y8 yz
    have y0 : V.cell? ⟨w.heap.size + 1, 0, none⟩ = some (.bool false) := by simp [World.cell?, HX5.out.ru]
    have y1 : V.cell? ⟨w.heap.size + 1, 1, none⟩ = some (.bool false) := by simp [World.cell?, HX5.out.ru]
    have y2 : V.cell? ⟨w.heap.size + 1, 2, none⟩ = some (.bool false) := by simp [World.cell?, HX5.out.ru]
    have y3 : V.cell? ⟨w.heap.size + 1, 3, none⟩ = some (.bool false) := by simp [World.cell?, HX5.out.ru]
    have y4 : V.cell? ⟨w.heap.size + 1, 4, none⟩ = some (.bool (!hld h i eb)) := by simp [World.cell?, HX5.out.ru]
    have y5 : V.cell? ⟨w.heap.size + 1, 5, none⟩ = some (.bool false) := by simp [World.cell?, HX5.out.ru]
    have y6 : V.cell? ⟨w.heap.size + 1, 6, none⟩ = some (.bool false) := by simp [World.cell?, HX5.out.ru]
    have y7 : V.cell? ⟨w.heap.size + 1, 7, none⟩ = some (.bool false) := by simp [World.cell?, HX5.out.ru]
    have y8 : V.cell? ⟨w.heap.size + 1, 8, none⟩ = some (.bool false) := by simp [World.cell?, HX5.out.ru]
    have yz : ∀ k, V.frozen? ⟨w.heap.size + 1, k, none⟩ = false := fun k => by simp [World.frozen?, HX5.out.ru]
    have hru : V.heap[w.heap.size + 1]? = some (.cells #[.bool false, .bool false, .bool false, .bool false, .bool (!hld h i eb), .bool false, .bool false, .bool false, .bool false] 60 (0, 0)) := by simpa using HX5.out.ru
    have HR9 := hide (put9 hru)
    have HB9 := hide (below9 (c0 := .bool false) (c1 := .bool false) (c2 := .bool false) (c3 := .bool false) (c4 := .bool (!hld h i eb)) (c5 := .bool false) (c6 := .bool false) (c7 := .bool false) (c8 := .bool false) HX5.out.below (Nat.le_succ _))
    clear hru
    go_wp2_with fail
    refine bodyPost_ret (results_rul (fn := Try.f36) rfl _ _ (w.heap.size + 1) #[.bool false, .bool false, .bool false, .bool false, .bool (!hld h i eb), .bool false, .bool false, .bool false, .bool false] rfl HR9.out rfl) rfl ?_
    exact ⟨rfl, HB9.out⟩
end
end Go.Proofs.Ytjfgmdiafhkbgaa
