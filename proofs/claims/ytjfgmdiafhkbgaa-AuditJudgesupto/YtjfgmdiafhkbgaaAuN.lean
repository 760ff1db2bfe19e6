import Derived.Test.YtjfgmdiafhkbgaaAuL
namespace Go.Proofs.Ytjfgmdiafhkbgaa
open Go.RowKit Go.MapKept
set_option maxRecDepth 8000

/-- is what is admitted out of its order? -/
def adB (h : Hs) (i : Nat) (tx : ByteArray) (ba ix : Int) : Bool := decide (ba < (h.adm (i + 1)).1) || ((ix != (if ba = (h.adm (i + 1)).1 then (h.adm (i + 1)).2 else 0)) || !isPc h tx ba ix)
section
variable {w w' : World} {B b : Nat} {h : Hs} {s : Hi} {i : Nat}
set_option maxHeartbeats 400000 in
theorem admitting_any (H : Hm w B b h s) (hi8 : i < 8) (ek eo en el : Int) (eb ei ec es er ew : Int) (ex : ByteArray) {et : List ByteArray} {q : Option Addr} {cq : Nat} (hb64 : i64 eb) (hx64 : i64 ei) :
    Calls Try.prog 45 #[.pointer (some ⟨b, 0, none⟩), .agg #[.int .i64 ek, .int .i64 eo, .int .i64 en, .int .i64 el, .int .i64 ((i : Int) + 1), .int .i64 eb, .int .i64 ei, .int .i64 ec, .int .i64 es, .int .i64 er, .int .u64 ew, .string ex, .slice q et.length cq]] w fun r w' => r = .returned (rul false false false false false false (adB h i ex eb ei) false) ∧ Below w.heap.size w w' := by
  have HX := hide (Bx.start w #[.int .i64 ek, .int .i64 eo, .int .i64 en, .int .i64 el, .int .i64 ((i : Int) + 1), .int .i64 eb, .int .i64 ei, .int .i64 ec, .int .i64 es, .int .i64 er, .int .u64 ew, .string ex, .slice q et.length cq] #[.bool false, .bool false, .bool false, .bool false, .bool false, .bool false, .bool false, .bool false, .bool false])
  have H0 := hide H
  have l8 := H.l8
  have hbl : b < w.heap.size := H.lt
  have i8 : (i : Int) < 8 := by omega
  have hji : i64 ((i : Int) + 1) := i64_of (by omega)
  clear H
  have HP : Hid (∀ W, Below w.heap.size w W → Calls Try.prog 68 #[.pointer (some ⟨b, 0, none⟩), .string ex, .int .i64 eb, .int .i64 ei] W fun r w' => r = .returned (.bool (isPc h ex eb ei)) ∧ Below W.heap.size W w') := hide fun W hb => isPiece_any (H0.out.below hb) ex eb ei hb64 hx64
  have HA : Hid (∀ W, Below w.heap.size w W → W.cell? ⟨b, 6 + (i + 1) * 2, none⟩ = some (.int .i64 (h.adm (i + 1)).1) ∧ W.cell? ⟨b, 6 + (i + 1) * 2 + 1, none⟩ = some (.int .i64 (h.adm (i + 1)).2)) := hide fun W hb => ⟨by rw [← hc_a s h (i + 1) (by omega)]; exact (H0.out.below hb).cell _ (by omega), by rw [← hc_b s h (i + 1) (by omega)]; exact (H0.out.below hb).cell _ (by omega)⟩
  generalize hAB : adB h i ex eb ei = AB
  have HAB := hide hAB
  unfold adB at HAB
  clear hb64 hx64 hAB
  generalize isPc h ex eb ei = ip at *
  generalize h.adm (i + 1) = ad at *
  obtain ⟨ab, ap⟩ := ad
  dsimp only at *
  go_enter Try.func45, Try.ntmps45
  go_wp2_with fail
  obtain ⟨W0, hW⟩ : ∃ V, ((w.alloc (.cells #[.int .i64 ek, .int .i64 eo, .int .i64 en, .int .i64 el, .int .i64 ((i : Int) + 1), .int .i64 eb, .int .i64 ei, .int .i64 ec, .int .i64 es, .int .i64 er, .int .u64 ew, .string ex, .slice q et.length cq] 43)).alloc (.cells #[.bool false, .bool false, .bool false, .bool false, .bool false, .bool false, .bool false, .bool false, .bool false] 60)) = V := ⟨_, rfl⟩
  rw [hW] at HX ⊢
  clear hW
  have n1 : w.heap.size < W0.heap.size := lt_of_block HX.out.ev
  have n2 : b < W0.heap.size := by omega
  have n3 : w.heap.size + 1 < W0.heap.size := lt_of_block HX.out.ru
  obtain ⟨a0, a1⟩ := HA.out _ HX.out.below
  have x0 : W0.cell? ⟨w.heap.size, 0, none⟩ = some (.int .i64 ek) := by simp [World.cell?, HX.out.ev]
  have x1 : W0.cell? ⟨w.heap.size, 1, none⟩ = some (.int .i64 eo) := by simp [World.cell?, HX.out.ev]
  have x2 : W0.cell? ⟨w.heap.size, 2, none⟩ = some (.int .i64 en) := by simp [World.cell?, HX.out.ev]
  have x3 : W0.cell? ⟨w.heap.size, 3, none⟩ = some (.int .i64 el) := by simp [World.cell?, HX.out.ev]
  have x4 : W0.cell? ⟨w.heap.size, 4, none⟩ = some (.int .i64 ((i : Int) + 1)) := by simp [World.cell?, HX.out.ev]
  have x5 : W0.cell? ⟨w.heap.size, 5, none⟩ = some (.int .i64 eb) := by simp [World.cell?, HX.out.ev]
  have x6 : W0.cell? ⟨w.heap.size, 6, none⟩ = some (.int .i64 ei) := by simp [World.cell?, HX.out.ev]
  have x7 : W0.cell? ⟨w.heap.size, 7, none⟩ = some (.int .i64 ec) := by simp [World.cell?, HX.out.ev]
  have x8 : W0.cell? ⟨w.heap.size, 8, none⟩ = some (.int .i64 es) := by simp [World.cell?, HX.out.ev]
  have x9 : W0.cell? ⟨w.heap.size, 9, none⟩ = some (.int .i64 er) := by simp [World.cell?, HX.out.ev]
  have x10 : W0.cell? ⟨w.heap.size, 10, none⟩ = some (.int .u64 ew) := by simp [World.cell?, HX.out.ev]
  have x11 : W0.cell? ⟨w.heap.size, 11, none⟩ = some (.string ex) := by simp [World.cell?, HX.out.ev]
  have x12 : W0.cell? ⟨w.heap.size, 12, none⟩ = some (.slice q et.length cq) := by simp [World.cell?, HX.out.ev]
  have y0 : W0.cell? ⟨w.heap.size + 1, 0, none⟩ = some (.bool false) := by simp [World.cell?, HX.out.ru]
  have y1 : W0.cell? ⟨w.heap.size + 1, 1, none⟩ = some (.bool false) := by simp [World.cell?, HX.out.ru]
  have y2 : W0.cell? ⟨w.heap.size + 1, 2, none⟩ = some (.bool false) := by simp [World.cell?, HX.out.ru]
  have y3 : W0.cell? ⟨w.heap.size + 1, 3, none⟩ = some (.bool false) := by simp [World.cell?, HX.out.ru]
  have y4 : W0.cell? ⟨w.heap.size + 1, 4, none⟩ = some (.bool false) := by simp [World.cell?, HX.out.ru]
  have y5 : W0.cell? ⟨w.heap.size + 1, 5, none⟩ = some (.bool false) := by simp [World.cell?, HX.out.ru]
  have y6 : W0.cell? ⟨w.heap.size + 1, 6, none⟩ = some (.bool false) := by simp [World.cell?, HX.out.ru]
  have y7 : W0.cell? ⟨w.heap.size + 1, 7, none⟩ = some (.bool false) := by simp [World.cell?, HX.out.ru]
  have y8 : W0.cell? ⟨w.heap.size + 1, 8, none⟩ = some (.bool false) := by simp [World.cell?, HX.out.ru]
  have yz : ∀ k, W0.frozen? ⟨w.heap.size + 1, k, none⟩ = false := fun k => by simp [World.frozen?, HX.out.ru]
  go_region
  clear x0 x1 x2 x3 x4 x5 x6 x7 x8 x9 x10 x11 x12 y0 y1 y2 y3 y4 y5 y6 y7 y8 yz a0 a1
  have HX1 := hide (HX.out.low ((below_alloc W0 (.cells #[.int .i64 ab, .int .i64 ap] 74)).drew))
  have hc2 := heap_alloc_new W0 (.cells #[.int .i64 ab, .int .i64 ap] 74)
  obtain ⟨W1, hW⟩ : ∃ V, (W0.alloc (.cells #[.int .i64 ab, .int .i64 ap] 74)).drew = V := ⟨_, rfl⟩
  have hc3 : W1.heap[W0.heap.size]? = some (.cells #[.int .i64 ab, .int .i64 ap] 74 (0, 0)) := by rw [← hW]; exact hc2
  rw [hW] at HX1 ⊢
  have c0 : W1.cell? ⟨W0.heap.size, 0, none⟩ = some (.int .i64 ab) := by simp [World.cell?, hc3]
  have c1 : W1.cell? ⟨W0.heap.size, 1, none⟩ = some (.int .i64 ap) := by simp [World.cell?, hc3]
  clear hW hc2 hc3 n1 n2 n3
  have x0 : W1.cell? ⟨w.heap.size, 0, none⟩ = some (.int .i64 ek) := by simp [World.cell?, HX1.out.ev]
  have x1 : W1.cell? ⟨w.heap.size, 1, none⟩ = some (.int .i64 eo) := by simp [World.cell?, HX1.out.ev]
  have x2 : W1.cell? ⟨w.heap.size, 2, none⟩ = some (.int .i64 en) := by simp [World.cell?, HX1.out.ev]
  have x3 : W1.cell? ⟨w.heap.size, 3, none⟩ = some (.int .i64 el) := by simp [World.cell?, HX1.out.ev]
  have x4 : W1.cell? ⟨w.heap.size, 4, none⟩ = some (.int .i64 ((i : Int) + 1)) := by simp [World.cell?, HX1.out.ev]
  have x5 : W1.cell? ⟨w.heap.size, 5, none⟩ = some (.int .i64 eb) := by simp [World.cell?, HX1.out.ev]
  have x6 : W1.cell? ⟨w.heap.size, 6, none⟩ = some (.int .i64 ei) := by simp [World.cell?, HX1.out.ev]
  have x7 : W1.cell? ⟨w.heap.size, 7, none⟩ = some (.int .i64 ec) := by simp [World.cell?, HX1.out.ev]
  have x8 : W1.cell? ⟨w.heap.size, 8, none⟩ = some (.int .i64 es) := by simp [World.cell?, HX1.out.ev]
  have x9 : W1.cell? ⟨w.heap.size, 9, none⟩ = some (.int .i64 er) := by simp [World.cell?, HX1.out.ev]
  have x10 : W1.cell? ⟨w.heap.size, 10, none⟩ = some (.int .u64 ew) := by simp [World.cell?, HX1.out.ev]
  have x11 : W1.cell? ⟨w.heap.size, 11, none⟩ = some (.string ex) := by simp [World.cell?, HX1.out.ev]
  have x12 : W1.cell? ⟨w.heap.size, 12, none⟩ = some (.slice q et.length cq) := by simp [World.cell?, HX1.out.ev]
  have y0 : W1.cell? ⟨w.heap.size + 1, 0, none⟩ = some (.bool false) := by simp [World.cell?, HX1.out.ru]
  have y1 : W1.cell? ⟨w.heap.size + 1, 1, none⟩ = some (.bool false) := by simp [World.cell?, HX1.out.ru]
  have y2 : W1.cell? ⟨w.heap.size + 1, 2, none⟩ = some (.bool false) := by simp [World.cell?, HX1.out.ru]
  have y3 : W1.cell? ⟨w.heap.size + 1, 3, none⟩ = some (.bool false) := by simp [World.cell?, HX1.out.ru]
  have y4 : W1.cell? ⟨w.heap.size + 1, 4, none⟩ = some (.bool false) := by simp [World.cell?, HX1.out.ru]
  have y5 : W1.cell? ⟨w.heap.size + 1, 5, none⟩ = some (.bool false) := by simp [World.cell?, HX1.out.ru]
  have y6 : W1.cell? ⟨w.heap.size + 1, 6, none⟩ = some (.bool false) := by simp [World.cell?, HX1.out.ru]
  have y7 : W1.cell? ⟨w.heap.size + 1, 7, none⟩ = some (.bool false) := by simp [World.cell?, HX1.out.ru]
  have y8 : W1.cell? ⟨w.heap.size + 1, 8, none⟩ = some (.bool false) := by simp [World.cell?, HX1.out.ru]
  have yz : ∀ k, W1.frozen? ⟨w.heap.size + 1, k, none⟩ = false := fun k => by simp [World.frozen?, HX1.out.ru]
  have hif : (eb == ab) = decide (eb = ab) := by by_cases hh : eb = ab <;> simp [hh]
  cases heq : (eb == ab) with
  | true =>
    have HV : Hid ((decide (eb < ab) || ((ei != (if eb = ab then ap else 0)) || !ip)) = (decide (eb < ab) || ((ei != ap) || !ip))) := hide (by rw [if_pos (by simpa using heq)])
    cases hlt : decide (eb < ab) with
    | true =>
      clear hif
      have HX2 := hide (HX1.out.set 7 (.bool true))
      go_upto_region 6 with (fail)
      obtain ⟨V, hV⟩ : ∃ V, W1.setCell ⟨w.heap.size + 1, 7, none⟩ (.bool true) = V := ⟨_, rfl⟩
      rw [hV] at HX2 ⊢
      clear hV
      clear y0 y1 y2 y3 y4 y5 y6 y7 y8 yz
      have y0 : V.cell? ⟨w.heap.size + 1, 0, none⟩ = some (.bool false) := by simp [World.cell?, HX2.out.ru]
      have y1 : V.cell? ⟨w.heap.size + 1, 1, none⟩ = some (.bool false) := by simp [World.cell?, HX2.out.ru]
      have y2 : V.cell? ⟨w.heap.size + 1, 2, none⟩ = some (.bool false) := by simp [World.cell?, HX2.out.ru]
      have y3 : V.cell? ⟨w.heap.size + 1, 3, none⟩ = some (.bool false) := by simp [World.cell?, HX2.out.ru]
      have y4 : V.cell? ⟨w.heap.size + 1, 4, none⟩ = some (.bool false) := by simp [World.cell?, HX2.out.ru]
      have y5 : V.cell? ⟨w.heap.size + 1, 5, none⟩ = some (.bool false) := by simp [World.cell?, HX2.out.ru]
      have y6 : V.cell? ⟨w.heap.size + 1, 6, none⟩ = some (.bool false) := by simp [World.cell?, HX2.out.ru]
      have y7 : V.cell? ⟨w.heap.size + 1, 7, none⟩ = some (.bool true) := by simp [World.cell?, HX2.out.ru]
      have y8 : V.cell? ⟨w.heap.size + 1, 8, none⟩ = some (.bool false) := by simp [World.cell?, HX2.out.ru]
      have yz : ∀ k, V.frozen? ⟨w.heap.size + 1, k, none⟩ = false := fun k => by simp [World.frozen?, HX2.out.ru]
      have hru : V.heap[w.heap.size + 1]? = some (.cells #[.bool false, .bool false, .bool false, .bool false, .bool false, .bool false, .bool false, .bool true, .bool false] 60 (0, 0)) := by simpa using HX2.out.ru
      have HR9 := hide (put9 hru)
      have HB9 := hide (below9 (c0 := .bool false) (c1 := .bool false) (c2 := .bool false) (c3 := .bool false) (c4 := .bool false) (c5 := .bool false) (c6 := .bool false) (c7 := .bool true) (c8 := .bool false) HX2.out.below (Nat.le_succ _))
      clear hru
      have HLT := hide hlt
      clear hlt heq c0 c1
      go_wp2_with fail
      refine bodyPost_ret (results_rul (fn := Try.f45) rfl _ _ (w.heap.size + 1) #[.bool false, .bool false, .bool false, .bool false, .bool false, .bool false, .bool false, .bool true, .bool false] rfl HR9.out rfl) rfl ?_
      exact ⟨by rw [← HAB.out, HV.out, HLT.out]; rfl, HB9.out⟩
    | false =>
      cases hne : (ei != ap) with
      | true =>
        clear hif
        have HX2 := hide (HX1.out.set 7 (.bool true))
        go_upto_region 6 with (fail)
        obtain ⟨V, hV⟩ : ∃ V, W1.setCell ⟨w.heap.size + 1, 7, none⟩ (.bool true) = V := ⟨_, rfl⟩
        rw [hV] at HX2 ⊢
        clear hV
        clear y0 y1 y2 y3 y4 y5 y6 y7 y8 yz
        have y0 : V.cell? ⟨w.heap.size + 1, 0, none⟩ = some (.bool false) := by simp [World.cell?, HX2.out.ru]
        have y1 : V.cell? ⟨w.heap.size + 1, 1, none⟩ = some (.bool false) := by simp [World.cell?, HX2.out.ru]
        have y2 : V.cell? ⟨w.heap.size + 1, 2, none⟩ = some (.bool false) := by simp [World.cell?, HX2.out.ru]
        have y3 : V.cell? ⟨w.heap.size + 1, 3, none⟩ = some (.bool false) := by simp [World.cell?, HX2.out.ru]
        have y4 : V.cell? ⟨w.heap.size + 1, 4, none⟩ = some (.bool false) := by simp [World.cell?, HX2.out.ru]
        have y5 : V.cell? ⟨w.heap.size + 1, 5, none⟩ = some (.bool false) := by simp [World.cell?, HX2.out.ru]
        have y6 : V.cell? ⟨w.heap.size + 1, 6, none⟩ = some (.bool false) := by simp [World.cell?, HX2.out.ru]
        have y7 : V.cell? ⟨w.heap.size + 1, 7, none⟩ = some (.bool true) := by simp [World.cell?, HX2.out.ru]
        have y8 : V.cell? ⟨w.heap.size + 1, 8, none⟩ = some (.bool false) := by simp [World.cell?, HX2.out.ru]
        have yz : ∀ k, V.frozen? ⟨w.heap.size + 1, k, none⟩ = false := fun k => by simp [World.frozen?, HX2.out.ru]
        have hru : V.heap[w.heap.size + 1]? = some (.cells #[.bool false, .bool false, .bool false, .bool false, .bool false, .bool false, .bool false, .bool true, .bool false] 60 (0, 0)) := by simpa using HX2.out.ru
        have HR9 := hide (put9 hru)
        have HB9 := hide (below9 (c0 := .bool false) (c1 := .bool false) (c2 := .bool false) (c3 := .bool false) (c4 := .bool false) (c5 := .bool false) (c6 := .bool false) (c7 := .bool true) (c8 := .bool false) HX2.out.below (Nat.le_succ _))
        clear hru
        have HLT := hide hlt
        have HNE := hide hne
        clear hlt heq hne c0 c1
        go_wp2_with fail
        refine bodyPost_ret (results_rul (fn := Try.f45) rfl _ _ (w.heap.size + 1) #[.bool false, .bool false, .bool false, .bool false, .bool false, .bool false, .bool false, .bool true, .bool false] rfl HR9.out rfl) rfl ?_
        exact ⟨by rw [← HAB.out, HV.out, HLT.out, HNE.out]; rfl, HB9.out⟩
      | false =>
        clear hif
        go_wp2_with fail
        refine (HP.out _ HX1.out.below).mono ?_
        rintro e w2 ⟨rfl, hb⟩
        have HX2 := hide (HX1.out.low hb)
        have x0 : w2.cell? ⟨w.heap.size, 0, none⟩ = some (.int .i64 ek) := by simp [World.cell?, HX2.out.ev]
        have x1 : w2.cell? ⟨w.heap.size, 1, none⟩ = some (.int .i64 eo) := by simp [World.cell?, HX2.out.ev]
        have x2 : w2.cell? ⟨w.heap.size, 2, none⟩ = some (.int .i64 en) := by simp [World.cell?, HX2.out.ev]
        have x3 : w2.cell? ⟨w.heap.size, 3, none⟩ = some (.int .i64 el) := by simp [World.cell?, HX2.out.ev]
        have x4 : w2.cell? ⟨w.heap.size, 4, none⟩ = some (.int .i64 ((i : Int) + 1)) := by simp [World.cell?, HX2.out.ev]
        have x5 : w2.cell? ⟨w.heap.size, 5, none⟩ = some (.int .i64 eb) := by simp [World.cell?, HX2.out.ev]
        have x6 : w2.cell? ⟨w.heap.size, 6, none⟩ = some (.int .i64 ei) := by simp [World.cell?, HX2.out.ev]
        have x7 : w2.cell? ⟨w.heap.size, 7, none⟩ = some (.int .i64 ec) := by simp [World.cell?, HX2.out.ev]
        have x8 : w2.cell? ⟨w.heap.size, 8, none⟩ = some (.int .i64 es) := by simp [World.cell?, HX2.out.ev]
        have x9 : w2.cell? ⟨w.heap.size, 9, none⟩ = some (.int .i64 er) := by simp [World.cell?, HX2.out.ev]
        have x10 : w2.cell? ⟨w.heap.size, 10, none⟩ = some (.int .u64 ew) := by simp [World.cell?, HX2.out.ev]
        have x11 : w2.cell? ⟨w.heap.size, 11, none⟩ = some (.string ex) := by simp [World.cell?, HX2.out.ev]
        have x12 : w2.cell? ⟨w.heap.size, 12, none⟩ = some (.slice q et.length cq) := by simp [World.cell?, HX2.out.ev]
        have y0 : w2.cell? ⟨w.heap.size + 1, 0, none⟩ = some (.bool false) := by simp [World.cell?, HX2.out.ru]
        have y1 : w2.cell? ⟨w.heap.size + 1, 1, none⟩ = some (.bool false) := by simp [World.cell?, HX2.out.ru]
        have y2 : w2.cell? ⟨w.heap.size + 1, 2, none⟩ = some (.bool false) := by simp [World.cell?, HX2.out.ru]
        have y3 : w2.cell? ⟨w.heap.size + 1, 3, none⟩ = some (.bool false) := by simp [World.cell?, HX2.out.ru]
        have y4 : w2.cell? ⟨w.heap.size + 1, 4, none⟩ = some (.bool false) := by simp [World.cell?, HX2.out.ru]
        have y5 : w2.cell? ⟨w.heap.size + 1, 5, none⟩ = some (.bool false) := by simp [World.cell?, HX2.out.ru]
        have y6 : w2.cell? ⟨w.heap.size + 1, 6, none⟩ = some (.bool false) := by simp [World.cell?, HX2.out.ru]
        have y7 : w2.cell? ⟨w.heap.size + 1, 7, none⟩ = some (.bool false) := by simp [World.cell?, HX2.out.ru]
        have y8 : w2.cell? ⟨w.heap.size + 1, 8, none⟩ = some (.bool false) := by simp [World.cell?, HX2.out.ru]
        have yz : ∀ k, w2.frozen? ⟨w.heap.size + 1, k, none⟩ = false := fun k => by simp [World.frozen?, HX2.out.ru]
        clear hb
        have HX3 := hide (HX2.out.set 7 (.bool (!ip)))
        go_upto_region 6 with (fail)
        obtain ⟨V, hV⟩ : ∃ V, w2.setCell ⟨w.heap.size + 1, 7, none⟩ (.bool (!ip)) = V := ⟨_, rfl⟩
        rw [hV] at HX3 ⊢
        clear hV
        clear y0 y1 y2 y3 y4 y5 y6 y7 y8 yz
        have y0 : V.cell? ⟨w.heap.size + 1, 0, none⟩ = some (.bool false) := by simp [World.cell?, HX3.out.ru]
        have y1 : V.cell? ⟨w.heap.size + 1, 1, none⟩ = some (.bool false) := by simp [World.cell?, HX3.out.ru]
        have y2 : V.cell? ⟨w.heap.size + 1, 2, none⟩ = some (.bool false) := by simp [World.cell?, HX3.out.ru]
        have y3 : V.cell? ⟨w.heap.size + 1, 3, none⟩ = some (.bool false) := by simp [World.cell?, HX3.out.ru]
        have y4 : V.cell? ⟨w.heap.size + 1, 4, none⟩ = some (.bool false) := by simp [World.cell?, HX3.out.ru]
        have y5 : V.cell? ⟨w.heap.size + 1, 5, none⟩ = some (.bool false) := by simp [World.cell?, HX3.out.ru]
        have y6 : V.cell? ⟨w.heap.size + 1, 6, none⟩ = some (.bool false) := by simp [World.cell?, HX3.out.ru]
        have y7 : V.cell? ⟨w.heap.size + 1, 7, none⟩ = some (.bool (!ip)) := by simp [World.cell?, HX3.out.ru]
        have y8 : V.cell? ⟨w.heap.size + 1, 8, none⟩ = some (.bool false) := by simp [World.cell?, HX3.out.ru]
        have yz : ∀ k, V.frozen? ⟨w.heap.size + 1, k, none⟩ = false := fun k => by simp [World.frozen?, HX3.out.ru]
        have hru : V.heap[w.heap.size + 1]? = some (.cells #[.bool false, .bool false, .bool false, .bool false, .bool false, .bool false, .bool false, .bool (!ip), .bool false] 60 (0, 0)) := by simpa using HX3.out.ru
        have HR9 := hide (put9 hru)
        have HB9 := hide (below9 (c0 := .bool false) (c1 := .bool false) (c2 := .bool false) (c3 := .bool false) (c4 := .bool false) (c5 := .bool false) (c6 := .bool false) (c7 := .bool (!ip)) (c8 := .bool false) HX3.out.below (Nat.le_succ _))
        clear hru
        have HLT := hide hlt
        have HNE := hide hne
        clear hlt heq hne c0 c1
        go_wp2_with fail
        refine bodyPost_ret (results_rul (fn := Try.f45) rfl _ _ (w.heap.size + 1) #[.bool false, .bool false, .bool false, .bool false, .bool false, .bool false, .bool false, .bool (!ip), .bool false] rfl HR9.out rfl) rfl ?_
        exact ⟨by rw [← HAB.out, HV.out, HLT.out, HNE.out]; rfl, HB9.out⟩
  | false =>
    have HV : Hid ((decide (eb < ab) || ((ei != (if eb = ab then ap else 0)) || !ip)) = (decide (eb < ab) || ((ei != 0) || !ip))) := hide (by rw [if_neg (by simpa using heq)])
    cases hlt : decide (eb < ab) with
    | true =>
      clear hif
      have HX2 := hide (HX1.out.set 7 (.bool true))
      go_upto_region 6 with (fail)
      obtain ⟨V, hV⟩ : ∃ V, W1.setCell ⟨w.heap.size + 1, 7, none⟩ (.bool true) = V := ⟨_, rfl⟩
      rw [hV] at HX2 ⊢
      clear hV
      clear y0 y1 y2 y3 y4 y5 y6 y7 y8 yz
      have y0 : V.cell? ⟨w.heap.size + 1, 0, none⟩ = some (.bool false) := by simp [World.cell?, HX2.out.ru]
      have y1 : V.cell? ⟨w.heap.size + 1, 1, none⟩ = some (.bool false) := by simp [World.cell?, HX2.out.ru]
      have y2 : V.cell? ⟨w.heap.size + 1, 2, none⟩ = some (.bool false) := by simp [World.cell?, HX2.out.ru]
      have y3 : V.cell? ⟨w.heap.size + 1, 3, none⟩ = some (.bool false) := by simp [World.cell?, HX2.out.ru]
      have y4 : V.cell? ⟨w.heap.size + 1, 4, none⟩ = some (.bool false) := by simp [World.cell?, HX2.out.ru]
      have y5 : V.cell? ⟨w.heap.size + 1, 5, none⟩ = some (.bool false) := by simp [World.cell?, HX2.out.ru]
      have y6 : V.cell? ⟨w.heap.size + 1, 6, none⟩ = some (.bool false) := by simp [World.cell?, HX2.out.ru]
      have y7 : V.cell? ⟨w.heap.size + 1, 7, none⟩ = some (.bool true) := by simp [World.cell?, HX2.out.ru]
      have y8 : V.cell? ⟨w.heap.size + 1, 8, none⟩ = some (.bool false) := by simp [World.cell?, HX2.out.ru]
      have yz : ∀ k, V.frozen? ⟨w.heap.size + 1, k, none⟩ = false := fun k => by simp [World.frozen?, HX2.out.ru]
      have hru : V.heap[w.heap.size + 1]? = some (.cells #[.bool false, .bool false, .bool false, .bool false, .bool false, .bool false, .bool false, .bool true, .bool false] 60 (0, 0)) := by simpa using HX2.out.ru
      have HR9 := hide (put9 hru)
      have HB9 := hide (below9 (c0 := .bool false) (c1 := .bool false) (c2 := .bool false) (c3 := .bool false) (c4 := .bool false) (c5 := .bool false) (c6 := .bool false) (c7 := .bool true) (c8 := .bool false) HX2.out.below (Nat.le_succ _))
      clear hru
      have HLT := hide hlt
      clear hlt heq c0 c1
      go_wp2_with fail
      refine bodyPost_ret (results_rul (fn := Try.f45) rfl _ _ (w.heap.size + 1) #[.bool false, .bool false, .bool false, .bool false, .bool false, .bool false, .bool false, .bool true, .bool false] rfl HR9.out rfl) rfl ?_
      exact ⟨by rw [← HAB.out, HV.out, HLT.out]; rfl, HB9.out⟩
    | false =>
      cases hne : (ei != 0) with
      | true =>
        clear hif
        have HX2 := hide (HX1.out.set 7 (.bool true))
        go_upto_region 6 with (fail)
        obtain ⟨V, hV⟩ : ∃ V, W1.setCell ⟨w.heap.size + 1, 7, none⟩ (.bool true) = V := ⟨_, rfl⟩
        rw [hV] at HX2 ⊢
        clear hV
        clear y0 y1 y2 y3 y4 y5 y6 y7 y8 yz
        have y0 : V.cell? ⟨w.heap.size + 1, 0, none⟩ = some (.bool false) := by simp [World.cell?, HX2.out.ru]
        have y1 : V.cell? ⟨w.heap.size + 1, 1, none⟩ = some (.bool false) := by simp [World.cell?, HX2.out.ru]
        have y2 : V.cell? ⟨w.heap.size + 1, 2, none⟩ = some (.bool false) := by simp [World.cell?, HX2.out.ru]
        have y3 : V.cell? ⟨w.heap.size + 1, 3, none⟩ = some (.bool false) := by simp [World.cell?, HX2.out.ru]
        have y4 : V.cell? ⟨w.heap.size + 1, 4, none⟩ = some (.bool false) := by simp [World.cell?, HX2.out.ru]
        have y5 : V.cell? ⟨w.heap.size + 1, 5, none⟩ = some (.bool false) := by simp [World.cell?, HX2.out.ru]
        have y6 : V.cell? ⟨w.heap.size + 1, 6, none⟩ = some (.bool false) := by simp [World.cell?, HX2.out.ru]
        have y7 : V.cell? ⟨w.heap.size + 1, 7, none⟩ = some (.bool true) := by simp [World.cell?, HX2.out.ru]
        have y8 : V.cell? ⟨w.heap.size + 1, 8, none⟩ = some (.bool false) := by simp [World.cell?, HX2.out.ru]
        have yz : ∀ k, V.frozen? ⟨w.heap.size + 1, k, none⟩ = false := fun k => by simp [World.frozen?, HX2.out.ru]
        have hru : V.heap[w.heap.size + 1]? = some (.cells #[.bool false, .bool false, .bool false, .bool false, .bool false, .bool false, .bool false, .bool true, .bool false] 60 (0, 0)) := by simpa using HX2.out.ru
        have HR9 := hide (put9 hru)
        have HB9 := hide (below9 (c0 := .bool false) (c1 := .bool false) (c2 := .bool false) (c3 := .bool false) (c4 := .bool false) (c5 := .bool false) (c6 := .bool false) (c7 := .bool true) (c8 := .bool false) HX2.out.below (Nat.le_succ _))
        clear hru
        have HLT := hide hlt
        have HNE := hide hne
        clear hlt heq hne c0 c1
        go_wp2_with fail
        refine bodyPost_ret (results_rul (fn := Try.f45) rfl _ _ (w.heap.size + 1) #[.bool false, .bool false, .bool false, .bool false, .bool false, .bool false, .bool false, .bool true, .bool false] rfl HR9.out rfl) rfl ?_
        exact ⟨by rw [← HAB.out, HV.out, HLT.out, HNE.out]; rfl, HB9.out⟩
      | false =>
        clear hif
        go_wp2_with fail
        refine (HP.out _ HX1.out.below).mono ?_
        rintro e w2 ⟨rfl, hb⟩
        have HX2 := hide (HX1.out.low hb)
        have x0 : w2.cell? ⟨w.heap.size, 0, none⟩ = some (.int .i64 ek) := by simp [World.cell?, HX2.out.ev]
        have x1 : w2.cell? ⟨w.heap.size, 1, none⟩ = some (.int .i64 eo) := by simp [World.cell?, HX2.out.ev]
        have x2 : w2.cell? ⟨w.heap.size, 2, none⟩ = some (.int .i64 en) := by simp [World.cell?, HX2.out.ev]
        have x3 : w2.cell? ⟨w.heap.size, 3, none⟩ = some (.int .i64 el) := by simp [World.cell?, HX2.out.ev]
        have x4 : w2.cell? ⟨w.heap.size, 4, none⟩ = some (.int .i64 ((i : Int) + 1)) := by simp [World.cell?, HX2.out.ev]
        have x5 : w2.cell? ⟨w.heap.size, 5, none⟩ = some (.int .i64 eb) := by simp [World.cell?, HX2.out.ev]
        have x6 : w2.cell? ⟨w.heap.size, 6, none⟩ = some (.int .i64 ei) := by simp [World.cell?, HX2.out.ev]
        have x7 : w2.cell? ⟨w.heap.size, 7, none⟩ = some (.int .i64 ec) := by simp [World.cell?, HX2.out.ev]
        have x8 : w2.cell? ⟨w.heap.size, 8, none⟩ = some (.int .i64 es) := by simp [World.cell?, HX2.out.ev]
        have x9 : w2.cell? ⟨w.heap.size, 9, none⟩ = some (.int .i64 er) := by simp [World.cell?, HX2.out.ev]
        have x10 : w2.cell? ⟨w.heap.size, 10, none⟩ = some (.int .u64 ew) := by simp [World.cell?, HX2.out.ev]
        have x11 : w2.cell? ⟨w.heap.size, 11, none⟩ = some (.string ex) := by simp [World.cell?, HX2.out.ev]
        have x12 : w2.cell? ⟨w.heap.size, 12, none⟩ = some (.slice q et.length cq) := by simp [World.cell?, HX2.out.ev]
        have y0 : w2.cell? ⟨w.heap.size + 1, 0, none⟩ = some (.bool false) := by simp [World.cell?, HX2.out.ru]
        have y1 : w2.cell? ⟨w.heap.size + 1, 1, none⟩ = some (.bool false) := by simp [World.cell?, HX2.out.ru]
        have y2 : w2.cell? ⟨w.heap.size + 1, 2, none⟩ = some (.bool false) := by simp [World.cell?, HX2.out.ru]
        have y3 : w2.cell? ⟨w.heap.size + 1, 3, none⟩ = some (.bool false) := by simp [World.cell?, HX2.out.ru]
        have y4 : w2.cell? ⟨w.heap.size + 1, 4, none⟩ = some (.bool false) := by simp [World.cell?, HX2.out.ru]
        have y5 : w2.cell? ⟨w.heap.size + 1, 5, none⟩ = some (.bool false) := by simp [World.cell?, HX2.out.ru]
        have y6 : w2.cell? ⟨w.heap.size + 1, 6, none⟩ = some (.bool false) := by simp [World.cell?, HX2.out.ru]
        have y7 : w2.cell? ⟨w.heap.size + 1, 7, none⟩ = some (.bool false) := by simp [World.cell?, HX2.out.ru]
        have y8 : w2.cell? ⟨w.heap.size + 1, 8, none⟩ = some (.bool false) := by simp [World.cell?, HX2.out.ru]
        have yz : ∀ k, w2.frozen? ⟨w.heap.size + 1, k, none⟩ = false := fun k => by simp [World.frozen?, HX2.out.ru]
        clear hb
        have HX3 := hide (HX2.out.set 7 (.bool (!ip)))
        go_upto_region 6 with (fail)
        obtain ⟨V, hV⟩ : ∃ V, w2.setCell ⟨w.heap.size + 1, 7, none⟩ (.bool (!ip)) = V := ⟨_, rfl⟩
        rw [hV] at HX3 ⊢
        clear hV
        clear y0 y1 y2 y3 y4 y5 y6 y7 y8 yz
        have y0 : V.cell? ⟨w.heap.size + 1, 0, none⟩ = some (.bool false) := by simp [World.cell?, HX3.out.ru]
        have y1 : V.cell? ⟨w.heap.size + 1, 1, none⟩ = some (.bool false) := by simp [World.cell?, HX3.out.ru]
        have y2 : V.cell? ⟨w.heap.size + 1, 2, none⟩ = some (.bool false) := by simp [World.cell?, HX3.out.ru]
        have y3 : V.cell? ⟨w.heap.size + 1, 3, none⟩ = some (.bool false) := by simp [World.cell?, HX3.out.ru]
        have y4 : V.cell? ⟨w.heap.size + 1, 4, none⟩ = some (.bool false) := by simp [World.cell?, HX3.out.ru]
        have y5 : V.cell? ⟨w.heap.size + 1, 5, none⟩ = some (.bool false) := by simp [World.cell?, HX3.out.ru]
        have y6 : V.cell? ⟨w.heap.size + 1, 6, none⟩ = some (.bool false) := by simp [World.cell?, HX3.out.ru]
        have y7 : V.cell? ⟨w.heap.size + 1, 7, none⟩ = some (.bool (!ip)) := by simp [World.cell?, HX3.out.ru]
        have y8 : V.cell? ⟨w.heap.size + 1, 8, none⟩ = some (.bool false) := by simp [World.cell?, HX3.out.ru]
        have yz : ∀ k, V.frozen? ⟨w.heap.size + 1, k, none⟩ = false := fun k => by simp [World.frozen?, HX3.out.ru]
        have hru : V.heap[w.heap.size + 1]? = some (.cells #[.bool false, .bool false, .bool false, .bool false, .bool false, .bool false, .bool false, .bool (!ip), .bool false] 60 (0, 0)) := by simpa using HX3.out.ru
        have HR9 := hide (put9 hru)
        have HB9 := hide (below9 (c0 := .bool false) (c1 := .bool false) (c2 := .bool false) (c3 := .bool false) (c4 := .bool false) (c5 := .bool false) (c6 := .bool false) (c7 := .bool (!ip)) (c8 := .bool false) HX3.out.below (Nat.le_succ _))
        clear hru
        have HLT := hide hlt
        have HNE := hide hne
        clear hlt heq hne c0 c1
        go_wp2_with fail
        refine bodyPost_ret (results_rul (fn := Try.f45) rfl _ _ (w.heap.size + 1) #[.bool false, .bool false, .bool false, .bool false, .bool false, .bool false, .bool false, .bool (!ip), .bool false] rfl HR9.out rfl) rfl ?_
        exact ⟨by rw [← HAB.out, HV.out, HLT.out, HNE.out]; rfl, HB9.out⟩
end
end Go.Proofs.Ytjfgmdiafhkbgaa
