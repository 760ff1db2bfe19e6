import Derived.Test.YtjfgmdiafhkbgaaAuL
import Derived.Test.YtjfgmdiafhkbgaaAuK
namespace Go.Proofs.Ytjfgmdiafhkbgaa
open Go.RowKit Go.MapKept
set_option maxRecDepth 8000

def kcs : Array Value := #[.bool false, .bool false, .nilFunc, .nilFunc, .bool false, .bool false, .func (.func 27) #[] #[], .func (.func 28) #[] #[], .bool true, .bool false, .func (.func 29) #[] #[], .func (.func 30) #[] #[], .bool false, .bool false, .func (.func 27) #[] #[], .func (.func 28) #[] #[], .bool false, .bool false, .func (.func 27) #[] #[], .func (.func 31) #[] #[], .bool true, .bool false, .func (.func 32) #[] #[], .func (.func 33) #[] #[], .bool true, .bool false, .func (.func 34) #[] #[], .func (.func 35) #[] #[], .bool true, .bool false, .func (.func 36) #[] #[], .func (.func 37) #[] #[], .bool true, .bool true, .func (.func 38) #[] #[], .func (.func 39) #[] #[], .bool true, .bool false, .func (.func 40) #[] #[], .func (.func 41) #[] #[], .bool false, .bool true, .func (.func 27) #[] #[], .func (.func 42) #[] #[], .bool false, .bool true, .func (.func 27) #[] #[], .func (.func 43) #[] #[], .bool false, .bool false, .func (.func 27) #[] #[], .func (.func 44) #[] #[], .bool true, .bool true, .func (.func 45) #[] #[], .func (.func 46) #[] #[], .bool true, .bool false, .func (.func 47) #[] #[], .func (.func 48) #[] #[]]
set_option maxHeartbeats 2000000 in
theorem kinds_any (w : World) : Calls Try.prog 17 #[] w fun e w' => e = .returned (.slice (some ⟨w.heap.size, 0, none⟩) 15 15) ∧ w'.heap[w.heap.size]? = some (.cells kcs 65 (0, 0)) ∧ Below w.heap.size w w' := by
  go_enter Try.func17, Try.ntmps17
  go_wp2_with fail
  go_ret
  exact ⟨rfl, heap_alloc_new w _, below_alloc _ _⟩
set_option maxHeartbeats 2000000 in
theorem newHistory_any {B : Nat} (w : World) (hB : B ≤ w.heap.size) : Calls Try.prog 19 #[] w fun e w' => ∃ b, e = .returned (.pointer (some ⟨b, 0, none⟩)) ∧ (∃ s, Hm w' B b hs0 s) ∧ Below w.heap.size w w' := by
  have hmm := @run_makeMap Try.prog
  have HB := hide hB
  clear hB
  go_enter Try.func19, Try.ntmps19
  go_wp2_with fail
  go_ret
  have q0 := mq_new KS w
  have b1 := below_alloc (w.alloc (.map #[] 0)) (.map #[] 0)
  have q1 := mq_new KS (w.alloc (.map #[] 0))
  have q2 := mq_new KV ((w.alloc (.map #[] 0)).alloc (.map #[] 0))
  have q3 := mq_new KL (((w.alloc (.map #[] 0)).alloc (.map #[] 0)).alloc (.map #[] 0))
  have b2 := below_alloc ((w.alloc (.map #[] 0)).alloc (.map #[] 0)) (.map #[] 0)
  have b3 := below_alloc (((w.alloc (.map #[] 0)).alloc (.map #[] 0)).alloc (.map #[] 0)) (.map #[] 0)
  have b4 := below_alloc ((((w.alloc (.map #[] 0)).alloc (.map #[] 0)).alloc (.map #[] 0)).alloc (.map #[] 0)) (.cells #[.slice none 0 0, .int .i64 0, .map (some w.heap.size), .map (some (w.heap.size + 1)), .map (some (w.heap.size + 2)), .map (some (w.heap.size + 3)), .int .i64 0, .int .i64 0, .int .i64 0, .int .i64 0, .int .i64 0, .int .i64 0, .int .i64 0, .int .i64 0, .int .i64 0, .int .i64 0, .int .i64 0, .int .i64 0, .int .i64 0, .int .i64 0, .int .i64 0, .int .i64 0, .int .i64 0, .int .i64 0, .bool false, .int .i64 0] 77)
  have hn := heap_alloc_new ((((w.alloc (.map #[] 0)).alloc (.map #[] 0)).alloc (.map #[] 0)).alloc (.map #[] 0)) (.cells #[.slice none 0 0, .int .i64 0, .map (some w.heap.size), .map (some (w.heap.size + 1)), .map (some (w.heap.size + 2)), .map (some (w.heap.size + 3)), .int .i64 0, .int .i64 0, .int .i64 0, .int .i64 0, .int .i64 0, .int .i64 0, .int .i64 0, .int .i64 0, .int .i64 0, .int .i64 0, .int .i64 0, .int .i64 0, .int .i64 0, .int .i64 0, .int .i64 0, .int .i64 0, .int .i64 0, .int .i64 0, .bool false, .int .i64 0] 77)
  simp only [World.size_alloc] at q1 q2 q3 hn
  have r0 := q0.keep (b1.block _ q0.lt)
  have r0 := r0.keep (b2.block _ r0.lt)
  have r0 := r0.keep (b3.block _ r0.lt)
  have r0 := r0.keep (b4.block _ r0.lt)
  have r1 := q1.keep (b2.block _ q1.lt)
  have r1 := r1.keep (b3.block _ r1.lt)
  have r1 := r1.keep (b4.block _ r1.lt)
  have r2 := q2.keep (b3.block _ q2.lt)
  have r2 := r2.keep (b4.block _ r2.lt)
  have r3 := q3.keep (b4.block _ q3.lt)
  have hBo := HB.out
  refine ⟨w.heap.size + 4, rfl, ⟨⟨.slice none 0 0, [], w.heap.size, w.heap.size + 1, w.heap.size + 2, w.heap.size + 3⟩, ⟨_, hn, rfl, fun o ho => ?_⟩, ⟨by omega, by dsimp only; omega, by dsimp only; omega, by dsimp only; omega, by dsimp only; omega⟩, ⟨by dsimp only; omega, by dsimp only; omega, by dsimp only; omega, by dsimp only; omega, by dsimp only; omega, by dsimp only; omega⟩, r0, r1, r2, r3, by decide, rfl, World.ownsRow_nil _ _ _ _, fun x hx => (by cases hx), .nil⟩, below_of (below_of (below_of (below_of (below_alloc _ _) b1) b2) b3) b4⟩
  rcases lt26 ho with rfl|rfl|rfl|rfl|rfl|rfl|rfl|rfl|rfl|rfl|rfl|rfl|rfl|rfl|rfl|rfl|rfl|rfl|rfl|rfl|rfl|rfl|rfl|rfl|rfl|rfl <;> rfl
theorem put9n {V : World} {g : Nat} {t : TypeId} {o0 o1 o2 o3 o4 o5 o6 o7 o8 c0 c1 c2 c3 c4 c5 c6 c7 c8 : Value} (h : V.heap[g]? = some (.cells #[o0, o1, o2, o3, o4, o5, o6, o7, o8] t (0, 0))) : (((((((((V.setCell ⟨g, 0, none⟩ c0).setCell ⟨g, 1, none⟩ c1).setCell ⟨g, 2, none⟩ c2).setCell ⟨g, 3, none⟩ c3).setCell ⟨g, 4, none⟩ c4).setCell ⟨g, 5, none⟩ c5).setCell ⟨g, 6, none⟩ c6).setCell ⟨g, 7, none⟩ c7).setCell ⟨g, 8, none⟩ c8).heap[g]? = some (.cells #[c0, c1, c2, c3, c4, c5, c6, c7, c8] t (0, 0)) := by
  have e0 : (V.setCell ⟨g, 0, none⟩ c0).heap[g]? = some (.cells #[c0, o1, o2, o3, o4, o5, o6, o7, o8] t (0, 0)) := by simpa using heap_setCell_same V g 0 _ t c0 h
  have e1 : ((V.setCell ⟨g, 0, none⟩ c0).setCell ⟨g, 1, none⟩ c1).heap[g]? = some (.cells #[c0, c1, o2, o3, o4, o5, o6, o7, o8] t (0, 0)) := by simpa using heap_setCell_same (V.setCell ⟨g, 0, none⟩ c0) g 1 _ t c1 e0
  have e2 : (((V.setCell ⟨g, 0, none⟩ c0).setCell ⟨g, 1, none⟩ c1).setCell ⟨g, 2, none⟩ c2).heap[g]? = some (.cells #[c0, c1, c2, o3, o4, o5, o6, o7, o8] t (0, 0)) := by simpa using heap_setCell_same ((V.setCell ⟨g, 0, none⟩ c0).setCell ⟨g, 1, none⟩ c1) g 2 _ t c2 e1
  have e3 : ((((V.setCell ⟨g, 0, none⟩ c0).setCell ⟨g, 1, none⟩ c1).setCell ⟨g, 2, none⟩ c2).setCell ⟨g, 3, none⟩ c3).heap[g]? = some (.cells #[c0, c1, c2, c3, o4, o5, o6, o7, o8] t (0, 0)) := by simpa using heap_setCell_same (((V.setCell ⟨g, 0, none⟩ c0).setCell ⟨g, 1, none⟩ c1).setCell ⟨g, 2, none⟩ c2) g 3 _ t c3 e2
  have e4 : (((((V.setCell ⟨g, 0, none⟩ c0).setCell ⟨g, 1, none⟩ c1).setCell ⟨g, 2, none⟩ c2).setCell ⟨g, 3, none⟩ c3).setCell ⟨g, 4, none⟩ c4).heap[g]? = some (.cells #[c0, c1, c2, c3, c4, o5, o6, o7, o8] t (0, 0)) := by simpa using heap_setCell_same ((((V.setCell ⟨g, 0, none⟩ c0).setCell ⟨g, 1, none⟩ c1).setCell ⟨g, 2, none⟩ c2).setCell ⟨g, 3, none⟩ c3) g 4 _ t c4 e3
  have e5 : ((((((V.setCell ⟨g, 0, none⟩ c0).setCell ⟨g, 1, none⟩ c1).setCell ⟨g, 2, none⟩ c2).setCell ⟨g, 3, none⟩ c3).setCell ⟨g, 4, none⟩ c4).setCell ⟨g, 5, none⟩ c5).heap[g]? = some (.cells #[c0, c1, c2, c3, c4, c5, o6, o7, o8] t (0, 0)) := by simpa using heap_setCell_same (((((V.setCell ⟨g, 0, none⟩ c0).setCell ⟨g, 1, none⟩ c1).setCell ⟨g, 2, none⟩ c2).setCell ⟨g, 3, none⟩ c3).setCell ⟨g, 4, none⟩ c4) g 5 _ t c5 e4
  have e6 : (((((((V.setCell ⟨g, 0, none⟩ c0).setCell ⟨g, 1, none⟩ c1).setCell ⟨g, 2, none⟩ c2).setCell ⟨g, 3, none⟩ c3).setCell ⟨g, 4, none⟩ c4).setCell ⟨g, 5, none⟩ c5).setCell ⟨g, 6, none⟩ c6).heap[g]? = some (.cells #[c0, c1, c2, c3, c4, c5, c6, o7, o8] t (0, 0)) := by simpa using heap_setCell_same ((((((V.setCell ⟨g, 0, none⟩ c0).setCell ⟨g, 1, none⟩ c1).setCell ⟨g, 2, none⟩ c2).setCell ⟨g, 3, none⟩ c3).setCell ⟨g, 4, none⟩ c4).setCell ⟨g, 5, none⟩ c5) g 6 _ t c6 e5
  have e7 : ((((((((V.setCell ⟨g, 0, none⟩ c0).setCell ⟨g, 1, none⟩ c1).setCell ⟨g, 2, none⟩ c2).setCell ⟨g, 3, none⟩ c3).setCell ⟨g, 4, none⟩ c4).setCell ⟨g, 5, none⟩ c5).setCell ⟨g, 6, none⟩ c6).setCell ⟨g, 7, none⟩ c7).heap[g]? = some (.cells #[c0, c1, c2, c3, c4, c5, c6, c7, o8] t (0, 0)) := by simpa using heap_setCell_same (((((((V.setCell ⟨g, 0, none⟩ c0).setCell ⟨g, 1, none⟩ c1).setCell ⟨g, 2, none⟩ c2).setCell ⟨g, 3, none⟩ c3).setCell ⟨g, 4, none⟩ c4).setCell ⟨g, 5, none⟩ c5).setCell ⟨g, 6, none⟩ c6) g 7 _ t c7 e6
  have e8 : (((((((((V.setCell ⟨g, 0, none⟩ c0).setCell ⟨g, 1, none⟩ c1).setCell ⟨g, 2, none⟩ c2).setCell ⟨g, 3, none⟩ c3).setCell ⟨g, 4, none⟩ c4).setCell ⟨g, 5, none⟩ c5).setCell ⟨g, 6, none⟩ c6).setCell ⟨g, 7, none⟩ c7).setCell ⟨g, 8, none⟩ c8).heap[g]? = some (.cells #[c0, c1, c2, c3, c4, c5, c6, c7, c8] t (0, 0)) := by simpa using heap_setCell_same ((((((((V.setCell ⟨g, 0, none⟩ c0).setCell ⟨g, 1, none⟩ c1).setCell ⟨g, 2, none⟩ c2).setCell ⟨g, 3, none⟩ c3).setCell ⟨g, 4, none⟩ c4).setCell ⟨g, 5, none⟩ c5).setCell ⟨g, 6, none⟩ c6).setCell ⟨g, 7, none⟩ c7) g 8 _ t c8 e7
  exact e8
theorem grown9 (V : World) (g : Nat) (c0 c1 c2 c3 c4 c5 c6 c7 c8 : Value) : V.grownBy (((((((((V.setCell ⟨g, 0, none⟩ c0).setCell ⟨g, 1, none⟩ c1).setCell ⟨g, 2, none⟩ c2).setCell ⟨g, 3, none⟩ c3).setCell ⟨g, 4, none⟩ c4).setCell ⟨g, 5, none⟩ c5).setCell ⟨g, 6, none⟩ c6).setCell ⟨g, 7, none⟩ c7).setCell ⟨g, 8, none⟩ c8) (some g) := grown_trans (grown_trans (grown_trans (grown_trans (grown_trans (grown_trans (grown_trans (grown_trans (grown_set V g 0 c0) (grown_set _ g 1 c1)) (grown_set _ g 2 c2)) (grown_set _ g 3 c3)) (grown_set _ g 4 c4)) (grown_set _ g 5 c5)) (grown_set _ g 6 c6)) (grown_set _ g 7 c7)) (grown_set _ g 8 c8)
/-- a block that is none of a history's is turned -/
theorem Hm.other {w w' : World} {B b k : Nat} {h : Hs} {s : Hi} (H : Hm w B b h s) (ho : Out w k) (hg : w.grownBy w' (some k)) : Hm w' B b h s := by
  have hne : ∀ {m : Nat}, ¬ Out w m → m < w.heap.size → w'.heap[m]? = w.heap[m]? := fun {m} hm hl => hg.block m hl fun e => hm (by injection e with e; rw [e]; exact ho)
  obtain ⟨cs, h1, h2⟩ := H.blk
  have hown : ∀ {e : TypeId} {size n base : Nat} {u : Value} {xs : List Value}, w.ownsRow base e size u n xs → (e = TH ∨ e = TJ ∨ e = TS) → w'.ownsRow base e size u n xs := fun hr he => own_keep hr fun m e => by
    obtain ⟨c, hc⟩ := own_type hr m e
    exact hne (not_out hc he) (hr.lt m e).2
  exact ⟨⟨cs, (hne (not_out h1 (.inl rfl)) (lt_of_block h1)).trans h1, h2⟩, H.lo, H.ne, H.ch.keep (hne H.ch.not_out H.ch.lt), H.pc.keep (hne H.pc.not_out H.pc.lt), H.rs.keep (hne H.rs.not_out H.rs.lt), H.cn.keep (hne H.cn.not_out H.cn.lt), H.l8, H.jobs, hown H.row (.inr (.inl rfl)), fun x hx => hown (H.logs x hx) (.inr (.inr rfl)), H.apart⟩
theorem Kt.new {B k : Nat} {w W W' : World} (h : Kt B w W) (hg : W.grownBy W' (some k)) (hk : w.heap.size ≤ k) : Kt B w W' :=
  ⟨hg.os.trans h.os, hg.tape.trans h.tape, hg.output.trans h.output, Nat.le_trans h.size hg.size, fun i hi hb => (hg.block i (Nat.lt_of_lt_of_le hi h.size) fun e => by injection e with e; omega).trans (h.block i hi hb)⟩
theorem blk_kt {B k : Nat} {W W' : World} {cs : Array Value} {t : TypeId} (hK : Kt B W W') (hb : W.heap[k]? = some (.cells cs t (0, 0))) (h1 : t ≠ TH) (h2 : t ≠ TJ) (h3 : t ≠ TS) : W'.heap[k]? = some (.cells cs t (0, 0)) :=
  (hK.block k (lt_of_block hb) (.inr ⟨_, _, _, hb, h1, h2, h3⟩)).trans hb
section
variable {w w' w0 : World} {B b : Nat} {h : Hs} {s : Hi}
set_option maxHeartbeats 4000000 in
theorem next_of (H : Hm w B b h s) (h0 : w0.heap.size ≤ B) (hb0 : Below w0.heap.size w0 w) (bj bi : Bool) (n1 n2 : Nat) {ek : Int} (eo en el ej eb ei ec es er ew : Int) (ex : ByteArray) {et : List ByteArray} {q : Option Addr} {cq : Nat} {a1 a2 a3 a4 a5 a6 a7 a8 : Bool} {h1 h2 : Hs}
    (hc1 : ∀ (args : Array Value) (W : World), (callFunc n1 args).run Try.prog W = .ok (.enter n1 args) W) (hc2 : ∀ (args : Array Value) (W : World), (callFunc n2 args).run Try.prog W = .ok (.enter n2 args) W)
    (hh1 : h1 = if ek = 14 then h else { h with sh := false })
    (HBr : ∀ W s', Hm W B b h1 s' → Below w0.heap.size w0 W → Calls Try.prog n1 #[.pointer (some ⟨b, 0, none⟩), .agg #[.int .i64 ek, .int .i64 eo, .int .i64 en, .int .i64 el, .int .i64 ej, .int .i64 eb, .int .i64 ei, .int .i64 ec, .int .i64 es, .int .i64 er, .int .u64 ew, .string ex, .slice q et.length cq]] W fun r w' => r = .returned (rul a1 a2 a3 a4 a5 a6 a7 a8) ∧ Below W.heap.size W w')
    (HBe : ∀ W s', Hm W B b h1 s' → Below w0.heap.size w0 W → Calls Try.prog n2 #[.pointer (some ⟨b, 0, none⟩), .agg #[.int .i64 ek, .int .i64 eo, .int .i64 en, .int .i64 el, .int .i64 ej, .int .i64 eb, .int .i64 ei, .int .i64 ec, .int .i64 es, .int .i64 er, .int .u64 ew, .string ex, .slice q et.length cq]] W fun r w' => r = .returned (.tuple #[]) ∧ (∃ s2, Hm w' B b h2 s2) ∧ Kt B W w') :
    Calls Try.prog 20 #[.pointer (some ⟨b, 0, none⟩), .agg #[.bool bj, .bool bi, .func (.func n1) #[] #[], .func (.func n2) #[] #[]], .agg #[.int .i64 ek, .int .i64 eo, .int .i64 en, .int .i64 el, .int .i64 ej, .int .i64 eb, .int .i64 ei, .int .i64 ec, .int .i64 es, .int .i64 er, .int .u64 ew, .string ex, .slice q et.length cq]] w fun r w' => r = .returned (rul a1 a2 a3 a4 a5 a6 a7 (a8 || (decide (ek ≠ 14) && msg h))) ∧ (∃ s', Hm w' B b h2 s') ∧ Kt B w w' := by
  have hBw : B ≤ w.heap.size := Nat.le_of_lt (Nat.lt_of_le_of_lt H.lo.1 H.lt)
  have HB0 : Hid (∀ W, Kt B w W → Below w0.heap.size w0 W) := hide fun W hk => hb0.trans ((hk.low hBw).mono h0)
  have hb1 := below_of (below_of (below_alloc w (.cells #[.bool bj, .bool bi, .func (.func n1) #[] #[], .func (.func n2) #[] #[]] 65)) (below_alloc (w.alloc (.cells #[.bool bj, .bool bi, .func (.func n1) #[] #[], .func (.func n2) #[] #[]] 65)) (.cells #[.int .i64 ek, .int .i64 eo, .int .i64 en, .int .i64 el, .int .i64 ej, .int .i64 eb, .int .i64 ei, .int .i64 ec, .int .i64 es, .int .i64 er, .int .u64 ew, .string ex, .slice q et.length cq] 43))) (below_alloc ((w.alloc (.cells #[.bool bj, .bool bi, .func (.func n1) #[] #[], .func (.func n2) #[] #[]] 65)).alloc (.cells #[.int .i64 ek, .int .i64 eo, .int .i64 en, .int .i64 el, .int .i64 ej, .int .i64 eb, .int .i64 ei, .int .i64 ec, .int .i64 es, .int .i64 er, .int .u64 ew, .string ex, .slice q et.length cq] 43)) (.cells #[.bool false, .bool false, .bool false, .bool false, .bool false, .bool false, .bool false, .bool false, .bool false] 60))
  have HM1 := hide (H.below hb1)
  have HK1 := hide (Kt.of_below (B := B) hb1)
  have HBr' := hide HBr
  have HBe' := hide HBe
  have HP1 : Hid ((((w.alloc (.cells #[.bool bj, .bool bi, .func (.func n1) #[] #[], .func (.func n2) #[] #[]] 65)).alloc (.cells #[.int .i64 ek, .int .i64 eo, .int .i64 en, .int .i64 el, .int .i64 ej, .int .i64 eb, .int .i64 ei, .int .i64 ec, .int .i64 es, .int .i64 er, .int .u64 ew, .string ex, .slice q et.length cq] 43)).alloc (.cells #[.bool false, .bool false, .bool false, .bool false, .bool false, .bool false, .bool false, .bool false, .bool false] 60)).heap[w.heap.size]? = some (.cells #[.bool bj, .bool bi, .func (.func n1) #[] #[], .func (.func n2) #[] #[]] 65 (0, 0)) ∧ (((w.alloc (.cells #[.bool bj, .bool bi, .func (.func n1) #[] #[], .func (.func n2) #[] #[]] 65)).alloc (.cells #[.int .i64 ek, .int .i64 eo, .int .i64 en, .int .i64 el, .int .i64 ej, .int .i64 eb, .int .i64 ei, .int .i64 ec, .int .i64 es, .int .i64 er, .int .u64 ew, .string ex, .slice q et.length cq] 43)).alloc (.cells #[.bool false, .bool false, .bool false, .bool false, .bool false, .bool false, .bool false, .bool false, .bool false] 60)).heap[w.heap.size + 1]? = some (.cells #[.int .i64 ek, .int .i64 eo, .int .i64 en, .int .i64 el, .int .i64 ej, .int .i64 eb, .int .i64 ei, .int .i64 ec, .int .i64 es, .int .i64 er, .int .u64 ew, .string ex, .slice q et.length cq] 43 (0, 0)) ∧ (((w.alloc (.cells #[.bool bj, .bool bi, .func (.func n1) #[] #[], .func (.func n2) #[] #[]] 65)).alloc (.cells #[.int .i64 ek, .int .i64 eo, .int .i64 en, .int .i64 el, .int .i64 ej, .int .i64 eb, .int .i64 ei, .int .i64 ec, .int .i64 es, .int .i64 er, .int .u64 ew, .string ex, .slice q et.length cq] 43)).alloc (.cells #[.bool false, .bool false, .bool false, .bool false, .bool false, .bool false, .bool false, .bool false, .bool false] 60)).heap[w.heap.size + 2]? = some (.cells #[.bool false, .bool false, .bool false, .bool false, .bool false, .bool false, .bool false, .bool false, .bool false] 60 (0, 0))) := hide (by
    have e1 := heap_alloc_new w (.cells #[.bool bj, .bool bi, .func (.func n1) #[] #[], .func (.func n2) #[] #[]] 65)
    have e2 := heap_alloc_new (w.alloc (.cells #[.bool bj, .bool bi, .func (.func n1) #[] #[], .func (.func n2) #[] #[]] 65)) (.cells #[.int .i64 ek, .int .i64 eo, .int .i64 en, .int .i64 el, .int .i64 ej, .int .i64 eb, .int .i64 ei, .int .i64 ec, .int .i64 es, .int .i64 er, .int .u64 ew, .string ex, .slice q et.length cq] 43)
    have e3 := heap_alloc_new ((w.alloc (.cells #[.bool bj, .bool bi, .func (.func n1) #[] #[], .func (.func n2) #[] #[]] 65)).alloc (.cells #[.int .i64 ek, .int .i64 eo, .int .i64 en, .int .i64 el, .int .i64 ej, .int .i64 eb, .int .i64 ei, .int .i64 ec, .int .i64 es, .int .i64 er, .int .u64 ew, .string ex, .slice q et.length cq] 43)) (.cells #[.bool false, .bool false, .bool false, .bool false, .bool false, .bool false, .bool false, .bool false, .bool false] 60)
    simp only [World.size_alloc] at e2 e3
    have b2 := below_alloc (w.alloc (.cells #[.bool bj, .bool bi, .func (.func n1) #[] #[], .func (.func n2) #[] #[]] 65)) (.cells #[.int .i64 ek, .int .i64 eo, .int .i64 en, .int .i64 el, .int .i64 ej, .int .i64 eb, .int .i64 ei, .int .i64 ec, .int .i64 es, .int .i64 er, .int .u64 ew, .string ex, .slice q et.length cq] 43)
    have b3 := below_alloc ((w.alloc (.cells #[.bool bj, .bool bi, .func (.func n1) #[] #[], .func (.func n2) #[] #[]] 65)).alloc (.cells #[.int .i64 ek, .int .i64 eo, .int .i64 en, .int .i64 el, .int .i64 ej, .int .i64 eb, .int .i64 ei, .int .i64 ec, .int .i64 es, .int .i64 er, .int .u64 ew, .string ex, .slice q et.length cq] 43)) (.cells #[.bool false, .bool false, .bool false, .bool false, .bool false, .bool false, .bool false, .bool false, .bool false] 60)
    have f1 := (b2.block _ (lt_of_block e1)).trans e1
    exact ⟨(b3.block _ (lt_of_block f1)).trans f1, (b3.block _ (lt_of_block e2)).trans e2, e3⟩)
  clear HBr HBe
  clear H h0 hb0 hb1 hBw
  by_cases h14 : ek = 14
  · subst h14
    rw [if_pos rfl] at hh1
    subst hh1
    go_enter Try.func20, Try.ntmps20
    go_wp2_with fail
    refine (HBr'.out _ _ HM1.out (HB0.out _ HK1.out)).mono ?_
    rintro e w2 ⟨rfl, hb2⟩
    have HM2 := hide (HM1.out.below hb2)
    have HK2 := hide (HK1.out.below hb2)
    have HP2 : Hid (w2.heap[w.heap.size]? = some (.cells #[.bool bj, .bool bi, .func (.func n1) #[] #[], .func (.func n2) #[] #[]] 65 (0, 0)) ∧ w2.heap[w.heap.size + 1]? = some (.cells #[.int .i64 14, .int .i64 eo, .int .i64 en, .int .i64 el, .int .i64 ej, .int .i64 eb, .int .i64 ei, .int .i64 ec, .int .i64 es, .int .i64 er, .int .u64 ew, .string ex, .slice q et.length cq] 43 (0, 0)) ∧ w2.heap[w.heap.size + 2]? = some (.cells #[.bool false, .bool false, .bool false, .bool false, .bool false, .bool false, .bool false, .bool false, .bool false] 60 (0, 0))) := hide ⟨(hb2.block _ (lt_of_block HP1.out.1)).trans HP1.out.1, (hb2.block _ (lt_of_block HP1.out.2.1)).trans HP1.out.2.1, (hb2.block _ (lt_of_block HP1.out.2.2)).trans HP1.out.2.2⟩
    have n0 : w.heap.size < w2.heap.size := lt_of_block HP2.out.1
    have n1' : w.heap.size + 1 < w2.heap.size := lt_of_block HP2.out.2.1
    have n2' : w.heap.size + 2 < w2.heap.size := lt_of_block HP2.out.2.2
    have xk0 : w2.cell? ⟨w.heap.size, 0, none⟩ = some (.bool bj) := by simp [World.cell?, HP2.out.1]
    have xk1 : w2.cell? ⟨w.heap.size, 1, none⟩ = some (.bool bi) := by simp [World.cell?, HP2.out.1]
    have xk2 : w2.cell? ⟨w.heap.size, 2, none⟩ = some (.func (.func n1) #[] #[]) := by simp [World.cell?, HP2.out.1]
    have xk3 : w2.cell? ⟨w.heap.size, 3, none⟩ = some (.func (.func n2) #[] #[]) := by simp [World.cell?, HP2.out.1]
    have x0 : w2.cell? ⟨w.heap.size + 1, 0, none⟩ = some (.int .i64 14) := by simp [World.cell?, HP2.out.2.1]
    have x1 : w2.cell? ⟨w.heap.size + 1, 1, none⟩ = some (.int .i64 eo) := by simp [World.cell?, HP2.out.2.1]
    have x2 : w2.cell? ⟨w.heap.size + 1, 2, none⟩ = some (.int .i64 en) := by simp [World.cell?, HP2.out.2.1]
    have x3 : w2.cell? ⟨w.heap.size + 1, 3, none⟩ = some (.int .i64 el) := by simp [World.cell?, HP2.out.2.1]
    have x4 : w2.cell? ⟨w.heap.size + 1, 4, none⟩ = some (.int .i64 ej) := by simp [World.cell?, HP2.out.2.1]
    have x5 : w2.cell? ⟨w.heap.size + 1, 5, none⟩ = some (.int .i64 eb) := by simp [World.cell?, HP2.out.2.1]
    have x6 : w2.cell? ⟨w.heap.size + 1, 6, none⟩ = some (.int .i64 ei) := by simp [World.cell?, HP2.out.2.1]
    have x7 : w2.cell? ⟨w.heap.size + 1, 7, none⟩ = some (.int .i64 ec) := by simp [World.cell?, HP2.out.2.1]
    have x8 : w2.cell? ⟨w.heap.size + 1, 8, none⟩ = some (.int .i64 es) := by simp [World.cell?, HP2.out.2.1]
    have x9 : w2.cell? ⟨w.heap.size + 1, 9, none⟩ = some (.int .i64 er) := by simp [World.cell?, HP2.out.2.1]
    have x10 : w2.cell? ⟨w.heap.size + 1, 10, none⟩ = some (.int .u64 ew) := by simp [World.cell?, HP2.out.2.1]
    have x11 : w2.cell? ⟨w.heap.size + 1, 11, none⟩ = some (.string ex) := by simp [World.cell?, HP2.out.2.1]
    have x12 : w2.cell? ⟨w.heap.size + 1, 12, none⟩ = some (.slice q et.length cq) := by simp [World.cell?, HP2.out.2.1]
    clear hb2
    cases a8 with
    | true =>
      have HM3 := hide (HM2.out.below (below_alloc w2 (.cells #[.bool false, .bool a1, .bool a2, .bool a3, .bool a4, .bool a5, .bool a6, .bool a7, .bool true] 60)))
      have HK3 := hide (HK2.out.below (below_alloc w2 (.cells #[.bool false, .bool a1, .bool a2, .bool a3, .bool a4, .bool a5, .bool a6, .bool a7, .bool true] 60)))
      have HR3 := hide (heap_alloc_new w2 (.cells #[.bool false, .bool a1, .bool a2, .bool a3, .bool a4, .bool a5, .bool a6, .bool a7, .bool true] 60))
      have HP3 : Hid ((w2.alloc (.cells #[.bool false, .bool a1, .bool a2, .bool a3, .bool a4, .bool a5, .bool a6, .bool a7, .bool true] 60)).heap[w.heap.size]? = some (.cells #[.bool bj, .bool bi, .func (.func n1) #[] #[], .func (.func n2) #[] #[]] 65 (0, 0)) ∧ (w2.alloc (.cells #[.bool false, .bool a1, .bool a2, .bool a3, .bool a4, .bool a5, .bool a6, .bool a7, .bool true] 60)).heap[w.heap.size + 1]? = some (.cells #[.int .i64 14, .int .i64 eo, .int .i64 en, .int .i64 el, .int .i64 ej, .int .i64 eb, .int .i64 ei, .int .i64 ec, .int .i64 es, .int .i64 er, .int .u64 ew, .string ex, .slice q et.length cq] 43 (0, 0)) ∧ (w2.alloc (.cells #[.bool false, .bool a1, .bool a2, .bool a3, .bool a4, .bool a5, .bool a6, .bool a7, .bool true] 60)).heap[w.heap.size + 2]? = some (.cells #[.bool false, .bool false, .bool false, .bool false, .bool false, .bool false, .bool false, .bool false, .bool false] 60 (0, 0))) := hide ⟨(Below.heap_alloc _ _ _ n0).trans HP2.out.1, (Below.heap_alloc _ _ _ n1').trans HP2.out.2.1, (Below.heap_alloc _ _ _ n2').trans HP2.out.2.2⟩
      go_wp2_with fail
      refine (HBe'.out _ _ HM3.out (HB0.out _ HK3.out)).mono ?_
      rintro e w4 ⟨rfl, ⟨s4, hm4⟩, hk4⟩
      have HM4 := hide hm4
      have HK4 := hide (HK3.out.trans hk4)
      have hr4 := blk_kt hk4 HR3.out (by decide) (by decide) (by decide)
      have hp4 := blk_kt hk4 HP3.out.2.2 (by decide) (by decide) (by decide)
      have r0 : w4.cell? ⟨w2.heap.size, 0, none⟩ = some (.bool false) := by simp [World.cell?, hr4]
      have r1 : w4.cell? ⟨w2.heap.size, 1, none⟩ = some (.bool a1) := by simp [World.cell?, hr4]
      have r2 : w4.cell? ⟨w2.heap.size, 2, none⟩ = some (.bool a2) := by simp [World.cell?, hr4]
      have r3 : w4.cell? ⟨w2.heap.size, 3, none⟩ = some (.bool a3) := by simp [World.cell?, hr4]
      have r4 : w4.cell? ⟨w2.heap.size, 4, none⟩ = some (.bool a4) := by simp [World.cell?, hr4]
      have r5 : w4.cell? ⟨w2.heap.size, 5, none⟩ = some (.bool a5) := by simp [World.cell?, hr4]
      have r6 : w4.cell? ⟨w2.heap.size, 6, none⟩ = some (.bool a6) := by simp [World.cell?, hr4]
      have r7 : w4.cell? ⟨w2.heap.size, 7, none⟩ = some (.bool a7) := by simp [World.cell?, hr4]
      have r8 : w4.cell? ⟨w2.heap.size, 8, none⟩ = some (.bool true) := by simp [World.cell?, hr4]
      have y0 : w4.cell? ⟨w.heap.size + 2, 0, none⟩ = some (.bool false) := by simp [World.cell?, hp4]
      have y1 : w4.cell? ⟨w.heap.size + 2, 1, none⟩ = some (.bool false) := by simp [World.cell?, hp4]
      have y2 : w4.cell? ⟨w.heap.size + 2, 2, none⟩ = some (.bool false) := by simp [World.cell?, hp4]
      have y3 : w4.cell? ⟨w.heap.size + 2, 3, none⟩ = some (.bool false) := by simp [World.cell?, hp4]
      have y4 : w4.cell? ⟨w.heap.size + 2, 4, none⟩ = some (.bool false) := by simp [World.cell?, hp4]
      have y5 : w4.cell? ⟨w.heap.size + 2, 5, none⟩ = some (.bool false) := by simp [World.cell?, hp4]
      have y6 : w4.cell? ⟨w.heap.size + 2, 6, none⟩ = some (.bool false) := by simp [World.cell?, hp4]
      have y7 : w4.cell? ⟨w.heap.size + 2, 7, none⟩ = some (.bool false) := by simp [World.cell?, hp4]
      have y8 : w4.cell? ⟨w.heap.size + 2, 8, none⟩ = some (.bool false) := by simp [World.cell?, hp4]
      have yz : ∀ k, w4.frozen? ⟨w.heap.size + 2, k, none⟩ = false := fun k => by simp [World.frozen?, hp4]
      have HR9 := hide (put9n (c0 := .bool false) (c1 := .bool a1) (c2 := .bool a2) (c3 := .bool a3) (c4 := .bool a4) (c5 := .bool a5) (c6 := .bool a6) (c7 := .bool a7) (c8 := .bool true) hp4)
      have HG9 := hide (grown9 w4 (w.heap.size + 2) (.bool false) (.bool a1) (.bool a2) (.bool a3) (.bool a4) (.bool a5) (.bool a6) (.bool a7) (.bool true))
      have HM9 := hide (hm4.other ⟨_, _, _, hp4, by decide, by decide, by decide⟩ HG9.out)
      have HK9 := hide (HK4.out.new HG9.out (by omega))
      clear hm4 hk4 hr4 hp4 n0 n1' n2'
      go_wp2_with fail
      refine bodyPost_ret (results_rul (fn := Try.f20) rfl _ _ (w.heap.size + 2) #[.bool false, .bool a1, .bool a2, .bool a3, .bool a4, .bool a5, .bool a6, .bool a7, .bool true] rfl HR9.out rfl) rfl ?_
      exact ⟨by first | rfl | simp, ⟨_, HM9.out⟩, HK9.out⟩
    | false =>
      have HM3 := hide (HM2.out.below (below_alloc w2 (.cells #[.bool false, .bool a1, .bool a2, .bool a3, .bool a4, .bool a5, .bool a6, .bool a7, .bool false] 60)))
      have HK3 := hide (HK2.out.below (below_alloc w2 (.cells #[.bool false, .bool a1, .bool a2, .bool a3, .bool a4, .bool a5, .bool a6, .bool a7, .bool false] 60)))
      have HR3 := hide (heap_alloc_new w2 (.cells #[.bool false, .bool a1, .bool a2, .bool a3, .bool a4, .bool a5, .bool a6, .bool a7, .bool false] 60))
      have HP3 : Hid ((w2.alloc (.cells #[.bool false, .bool a1, .bool a2, .bool a3, .bool a4, .bool a5, .bool a6, .bool a7, .bool false] 60)).heap[w.heap.size]? = some (.cells #[.bool bj, .bool bi, .func (.func n1) #[] #[], .func (.func n2) #[] #[]] 65 (0, 0)) ∧ (w2.alloc (.cells #[.bool false, .bool a1, .bool a2, .bool a3, .bool a4, .bool a5, .bool a6, .bool a7, .bool false] 60)).heap[w.heap.size + 1]? = some (.cells #[.int .i64 14, .int .i64 eo, .int .i64 en, .int .i64 el, .int .i64 ej, .int .i64 eb, .int .i64 ei, .int .i64 ec, .int .i64 es, .int .i64 er, .int .u64 ew, .string ex, .slice q et.length cq] 43 (0, 0)) ∧ (w2.alloc (.cells #[.bool false, .bool a1, .bool a2, .bool a3, .bool a4, .bool a5, .bool a6, .bool a7, .bool false] 60)).heap[w.heap.size + 2]? = some (.cells #[.bool false, .bool false, .bool false, .bool false, .bool false, .bool false, .bool false, .bool false, .bool false] 60 (0, 0))) := hide ⟨(Below.heap_alloc _ _ _ n0).trans HP2.out.1, (Below.heap_alloc _ _ _ n1').trans HP2.out.2.1, (Below.heap_alloc _ _ _ n2').trans HP2.out.2.2⟩
      go_wp2_with fail
      refine (HBe'.out _ _ HM3.out (HB0.out _ HK3.out)).mono ?_
      rintro e w4 ⟨rfl, ⟨s4, hm4⟩, hk4⟩
      have HM4 := hide hm4
      have HK4 := hide (HK3.out.trans hk4)
      have hr4 := blk_kt hk4 HR3.out (by decide) (by decide) (by decide)
      have hp4 := blk_kt hk4 HP3.out.2.2 (by decide) (by decide) (by decide)
      have r0 : w4.cell? ⟨w2.heap.size, 0, none⟩ = some (.bool false) := by simp [World.cell?, hr4]
      have r1 : w4.cell? ⟨w2.heap.size, 1, none⟩ = some (.bool a1) := by simp [World.cell?, hr4]
      have r2 : w4.cell? ⟨w2.heap.size, 2, none⟩ = some (.bool a2) := by simp [World.cell?, hr4]
      have r3 : w4.cell? ⟨w2.heap.size, 3, none⟩ = some (.bool a3) := by simp [World.cell?, hr4]
      have r4 : w4.cell? ⟨w2.heap.size, 4, none⟩ = some (.bool a4) := by simp [World.cell?, hr4]
      have r5 : w4.cell? ⟨w2.heap.size, 5, none⟩ = some (.bool a5) := by simp [World.cell?, hr4]
      have r6 : w4.cell? ⟨w2.heap.size, 6, none⟩ = some (.bool a6) := by simp [World.cell?, hr4]
      have r7 : w4.cell? ⟨w2.heap.size, 7, none⟩ = some (.bool a7) := by simp [World.cell?, hr4]
      have r8 : w4.cell? ⟨w2.heap.size, 8, none⟩ = some (.bool false) := by simp [World.cell?, hr4]
      have y0 : w4.cell? ⟨w.heap.size + 2, 0, none⟩ = some (.bool false) := by simp [World.cell?, hp4]
      have y1 : w4.cell? ⟨w.heap.size + 2, 1, none⟩ = some (.bool false) := by simp [World.cell?, hp4]
      have y2 : w4.cell? ⟨w.heap.size + 2, 2, none⟩ = some (.bool false) := by simp [World.cell?, hp4]
      have y3 : w4.cell? ⟨w.heap.size + 2, 3, none⟩ = some (.bool false) := by simp [World.cell?, hp4]
      have y4 : w4.cell? ⟨w.heap.size + 2, 4, none⟩ = some (.bool false) := by simp [World.cell?, hp4]
      have y5 : w4.cell? ⟨w.heap.size + 2, 5, none⟩ = some (.bool false) := by simp [World.cell?, hp4]
      have y6 : w4.cell? ⟨w.heap.size + 2, 6, none⟩ = some (.bool false) := by simp [World.cell?, hp4]
      have y7 : w4.cell? ⟨w.heap.size + 2, 7, none⟩ = some (.bool false) := by simp [World.cell?, hp4]
      have y8 : w4.cell? ⟨w.heap.size + 2, 8, none⟩ = some (.bool false) := by simp [World.cell?, hp4]
      have yz : ∀ k, w4.frozen? ⟨w.heap.size + 2, k, none⟩ = false := fun k => by simp [World.frozen?, hp4]
      have HR9 := hide (put9n (c0 := .bool false) (c1 := .bool a1) (c2 := .bool a2) (c3 := .bool a3) (c4 := .bool a4) (c5 := .bool a5) (c6 := .bool a6) (c7 := .bool a7) (c8 := .bool false) hp4)
      have HG9 := hide (grown9 w4 (w.heap.size + 2) (.bool false) (.bool a1) (.bool a2) (.bool a3) (.bool a4) (.bool a5) (.bool a6) (.bool a7) (.bool false))
      have HM9 := hide (hm4.other ⟨_, _, _, hp4, by decide, by decide, by decide⟩ HG9.out)
      have HK9 := hide (HK4.out.new HG9.out (by omega))
      clear hm4 hk4 hr4 hp4 n0 n1' n2'
      go_wp2_with fail
      refine bodyPost_ret (results_rul (fn := Try.f20) rfl _ _ (w.heap.size + 2) #[.bool false, .bool a1, .bool a2, .bool a3, .bool a4, .bool a5, .bool a6, .bool a7, .bool false] rfl HR9.out rfl) rfl ?_
      exact ⟨by first | rfl | simp, ⟨_, HM9.out⟩, HK9.out⟩
  · rw [if_neg h14] at hh1
    subst hh1
    have b14 : (ek != 14) = true := by simpa using h14
    have HE := hide (endShowing_any HM1.out)
    have HD : Hid (decide (ek ≠ 14) = true) := hide (by simpa using h14)
    have HAB : Hid (∀ x : Bool, (x || (decide (ek ≠ 14) && msg h)) = (x || msg h)) := hide fun x => by rw [HD.out, Bool.true_and]
    generalize (decide (ek ≠ 14) && msg h) = ms0 at *
    generalize msg h = ms at *
    clear h14 HD
    go_enter Try.func20, Try.ntmps20
    go_wp2_with fail
    refine HE.out.mono ?_
    rintro e w1 ⟨rfl, hm1, hk1⟩
    have HMb := hide hm1
    have HKb := hide (HK1.out.trans hk1)
    have HPb : Hid (w1.heap[w.heap.size]? = some (.cells #[.bool bj, .bool bi, .func (.func n1) #[] #[], .func (.func n2) #[] #[]] 65 (0, 0)) ∧ w1.heap[w.heap.size + 1]? = some (.cells #[.int .i64 ek, .int .i64 eo, .int .i64 en, .int .i64 el, .int .i64 ej, .int .i64 eb, .int .i64 ei, .int .i64 ec, .int .i64 es, .int .i64 er, .int .u64 ew, .string ex, .slice q et.length cq] 43 (0, 0)) ∧ w1.heap[w.heap.size + 2]? = some (.cells #[.bool false, .bool false, .bool false, .bool false, .bool false, .bool false, .bool false, .bool false, .bool false] 60 (0, 0))) := hide ⟨blk_kt hk1 HP1.out.1 (by decide) (by decide) (by decide), blk_kt hk1 HP1.out.2.1 (by decide) (by decide) (by decide), blk_kt hk1 HP1.out.2.2 (by decide) (by decide) (by decide)⟩
    have xk0 : w1.cell? ⟨w.heap.size, 0, none⟩ = some (.bool bj) := by simp [World.cell?, HPb.out.1]
    have xk1 : w1.cell? ⟨w.heap.size, 1, none⟩ = some (.bool bi) := by simp [World.cell?, HPb.out.1]
    have xk2 : w1.cell? ⟨w.heap.size, 2, none⟩ = some (.func (.func n1) #[] #[]) := by simp [World.cell?, HPb.out.1]
    have xk3 : w1.cell? ⟨w.heap.size, 3, none⟩ = some (.func (.func n2) #[] #[]) := by simp [World.cell?, HPb.out.1]
    have x0 : w1.cell? ⟨w.heap.size + 1, 0, none⟩ = some (.int .i64 ek) := by simp [World.cell?, HPb.out.2.1]
    have x1 : w1.cell? ⟨w.heap.size + 1, 1, none⟩ = some (.int .i64 eo) := by simp [World.cell?, HPb.out.2.1]
    have x2 : w1.cell? ⟨w.heap.size + 1, 2, none⟩ = some (.int .i64 en) := by simp [World.cell?, HPb.out.2.1]
    have x3 : w1.cell? ⟨w.heap.size + 1, 3, none⟩ = some (.int .i64 el) := by simp [World.cell?, HPb.out.2.1]
    have x4 : w1.cell? ⟨w.heap.size + 1, 4, none⟩ = some (.int .i64 ej) := by simp [World.cell?, HPb.out.2.1]
    have x5 : w1.cell? ⟨w.heap.size + 1, 5, none⟩ = some (.int .i64 eb) := by simp [World.cell?, HPb.out.2.1]
    have x6 : w1.cell? ⟨w.heap.size + 1, 6, none⟩ = some (.int .i64 ei) := by simp [World.cell?, HPb.out.2.1]
    have x7 : w1.cell? ⟨w.heap.size + 1, 7, none⟩ = some (.int .i64 ec) := by simp [World.cell?, HPb.out.2.1]
    have x8 : w1.cell? ⟨w.heap.size + 1, 8, none⟩ = some (.int .i64 es) := by simp [World.cell?, HPb.out.2.1]
    have x9 : w1.cell? ⟨w.heap.size + 1, 9, none⟩ = some (.int .i64 er) := by simp [World.cell?, HPb.out.2.1]
    have x10 : w1.cell? ⟨w.heap.size + 1, 10, none⟩ = some (.int .u64 ew) := by simp [World.cell?, HPb.out.2.1]
    have x11 : w1.cell? ⟨w.heap.size + 1, 11, none⟩ = some (.string ex) := by simp [World.cell?, HPb.out.2.1]
    have x12 : w1.cell? ⟨w.heap.size + 1, 12, none⟩ = some (.slice q et.length cq) := by simp [World.cell?, HPb.out.2.1]
    clear hm1 hk1
    go_wp2_with fail
    refine (HBr'.out _ _ HMb.out (HB0.out _ HKb.out)).mono ?_
    rintro e w2 ⟨rfl, hb2⟩
    have HM2 := hide (HMb.out.below hb2)
    have HK2 := hide (HKb.out.below hb2)
    have HP2 : Hid (w2.heap[w.heap.size]? = some (.cells #[.bool bj, .bool bi, .func (.func n1) #[] #[], .func (.func n2) #[] #[]] 65 (0, 0)) ∧ w2.heap[w.heap.size + 1]? = some (.cells #[.int .i64 ek, .int .i64 eo, .int .i64 en, .int .i64 el, .int .i64 ej, .int .i64 eb, .int .i64 ei, .int .i64 ec, .int .i64 es, .int .i64 er, .int .u64 ew, .string ex, .slice q et.length cq] 43 (0, 0)) ∧ w2.heap[w.heap.size + 2]? = some (.cells #[.bool false, .bool false, .bool false, .bool false, .bool false, .bool false, .bool false, .bool false, .bool false] 60 (0, 0))) := hide ⟨(hb2.block _ (lt_of_block HPb.out.1)).trans HPb.out.1, (hb2.block _ (lt_of_block HPb.out.2.1)).trans HPb.out.2.1, (hb2.block _ (lt_of_block HPb.out.2.2)).trans HPb.out.2.2⟩
    have n0 : w.heap.size < w2.heap.size := lt_of_block HP2.out.1
    have n1' : w.heap.size + 1 < w2.heap.size := lt_of_block HP2.out.2.1
    have n2' : w.heap.size + 2 < w2.heap.size := lt_of_block HP2.out.2.2
    have xk0 : w2.cell? ⟨w.heap.size, 0, none⟩ = some (.bool bj) := by simp [World.cell?, HP2.out.1]
    have xk1 : w2.cell? ⟨w.heap.size, 1, none⟩ = some (.bool bi) := by simp [World.cell?, HP2.out.1]
    have xk2 : w2.cell? ⟨w.heap.size, 2, none⟩ = some (.func (.func n1) #[] #[]) := by simp [World.cell?, HP2.out.1]
    have xk3 : w2.cell? ⟨w.heap.size, 3, none⟩ = some (.func (.func n2) #[] #[]) := by simp [World.cell?, HP2.out.1]
    have x0 : w2.cell? ⟨w.heap.size + 1, 0, none⟩ = some (.int .i64 ek) := by simp [World.cell?, HP2.out.2.1]
    have x1 : w2.cell? ⟨w.heap.size + 1, 1, none⟩ = some (.int .i64 eo) := by simp [World.cell?, HP2.out.2.1]
    have x2 : w2.cell? ⟨w.heap.size + 1, 2, none⟩ = some (.int .i64 en) := by simp [World.cell?, HP2.out.2.1]
    have x3 : w2.cell? ⟨w.heap.size + 1, 3, none⟩ = some (.int .i64 el) := by simp [World.cell?, HP2.out.2.1]
    have x4 : w2.cell? ⟨w.heap.size + 1, 4, none⟩ = some (.int .i64 ej) := by simp [World.cell?, HP2.out.2.1]
    have x5 : w2.cell? ⟨w.heap.size + 1, 5, none⟩ = some (.int .i64 eb) := by simp [World.cell?, HP2.out.2.1]
    have x6 : w2.cell? ⟨w.heap.size + 1, 6, none⟩ = some (.int .i64 ei) := by simp [World.cell?, HP2.out.2.1]
    have x7 : w2.cell? ⟨w.heap.size + 1, 7, none⟩ = some (.int .i64 ec) := by simp [World.cell?, HP2.out.2.1]
    have x8 : w2.cell? ⟨w.heap.size + 1, 8, none⟩ = some (.int .i64 es) := by simp [World.cell?, HP2.out.2.1]
    have x9 : w2.cell? ⟨w.heap.size + 1, 9, none⟩ = some (.int .i64 er) := by simp [World.cell?, HP2.out.2.1]
    have x10 : w2.cell? ⟨w.heap.size + 1, 10, none⟩ = some (.int .u64 ew) := by simp [World.cell?, HP2.out.2.1]
    have x11 : w2.cell? ⟨w.heap.size + 1, 11, none⟩ = some (.string ex) := by simp [World.cell?, HP2.out.2.1]
    have x12 : w2.cell? ⟨w.heap.size + 1, 12, none⟩ = some (.slice q et.length cq) := by simp [World.cell?, HP2.out.2.1]
    clear hb2
    cases a8 with
    | true =>
      have HM3 := hide (HM2.out.below (below_alloc w2 (.cells #[.bool false, .bool a1, .bool a2, .bool a3, .bool a4, .bool a5, .bool a6, .bool a7, .bool true] 60)))
      have HK3 := hide (HK2.out.below (below_alloc w2 (.cells #[.bool false, .bool a1, .bool a2, .bool a3, .bool a4, .bool a5, .bool a6, .bool a7, .bool true] 60)))
      have HR3 := hide (heap_alloc_new w2 (.cells #[.bool false, .bool a1, .bool a2, .bool a3, .bool a4, .bool a5, .bool a6, .bool a7, .bool true] 60))
      have HP3 : Hid ((w2.alloc (.cells #[.bool false, .bool a1, .bool a2, .bool a3, .bool a4, .bool a5, .bool a6, .bool a7, .bool true] 60)).heap[w.heap.size]? = some (.cells #[.bool bj, .bool bi, .func (.func n1) #[] #[], .func (.func n2) #[] #[]] 65 (0, 0)) ∧ (w2.alloc (.cells #[.bool false, .bool a1, .bool a2, .bool a3, .bool a4, .bool a5, .bool a6, .bool a7, .bool true] 60)).heap[w.heap.size + 1]? = some (.cells #[.int .i64 ek, .int .i64 eo, .int .i64 en, .int .i64 el, .int .i64 ej, .int .i64 eb, .int .i64 ei, .int .i64 ec, .int .i64 es, .int .i64 er, .int .u64 ew, .string ex, .slice q et.length cq] 43 (0, 0)) ∧ (w2.alloc (.cells #[.bool false, .bool a1, .bool a2, .bool a3, .bool a4, .bool a5, .bool a6, .bool a7, .bool true] 60)).heap[w.heap.size + 2]? = some (.cells #[.bool false, .bool false, .bool false, .bool false, .bool false, .bool false, .bool false, .bool false, .bool false] 60 (0, 0))) := hide ⟨(Below.heap_alloc _ _ _ n0).trans HP2.out.1, (Below.heap_alloc _ _ _ n1').trans HP2.out.2.1, (Below.heap_alloc _ _ _ n2').trans HP2.out.2.2⟩
      go_wp2_with fail
      refine (HBe'.out _ _ HM3.out (HB0.out _ HK3.out)).mono ?_
      rintro e w4 ⟨rfl, ⟨s4, hm4⟩, hk4⟩
      have HM4 := hide hm4
      have HK4 := hide (HK3.out.trans hk4)
      have hr4 := blk_kt hk4 HR3.out (by decide) (by decide) (by decide)
      have hp4 := blk_kt hk4 HP3.out.2.2 (by decide) (by decide) (by decide)
      have r0 : w4.cell? ⟨w2.heap.size, 0, none⟩ = some (.bool false) := by simp [World.cell?, hr4]
      have r1 : w4.cell? ⟨w2.heap.size, 1, none⟩ = some (.bool a1) := by simp [World.cell?, hr4]
      have r2 : w4.cell? ⟨w2.heap.size, 2, none⟩ = some (.bool a2) := by simp [World.cell?, hr4]
      have r3 : w4.cell? ⟨w2.heap.size, 3, none⟩ = some (.bool a3) := by simp [World.cell?, hr4]
      have r4 : w4.cell? ⟨w2.heap.size, 4, none⟩ = some (.bool a4) := by simp [World.cell?, hr4]
      have r5 : w4.cell? ⟨w2.heap.size, 5, none⟩ = some (.bool a5) := by simp [World.cell?, hr4]
      have r6 : w4.cell? ⟨w2.heap.size, 6, none⟩ = some (.bool a6) := by simp [World.cell?, hr4]
      have r7 : w4.cell? ⟨w2.heap.size, 7, none⟩ = some (.bool a7) := by simp [World.cell?, hr4]
      have r8 : w4.cell? ⟨w2.heap.size, 8, none⟩ = some (.bool true) := by simp [World.cell?, hr4]
      have y0 : w4.cell? ⟨w.heap.size + 2, 0, none⟩ = some (.bool false) := by simp [World.cell?, hp4]
      have y1 : w4.cell? ⟨w.heap.size + 2, 1, none⟩ = some (.bool false) := by simp [World.cell?, hp4]
      have y2 : w4.cell? ⟨w.heap.size + 2, 2, none⟩ = some (.bool false) := by simp [World.cell?, hp4]
      have y3 : w4.cell? ⟨w.heap.size + 2, 3, none⟩ = some (.bool false) := by simp [World.cell?, hp4]
      have y4 : w4.cell? ⟨w.heap.size + 2, 4, none⟩ = some (.bool false) := by simp [World.cell?, hp4]
      have y5 : w4.cell? ⟨w.heap.size + 2, 5, none⟩ = some (.bool false) := by simp [World.cell?, hp4]
      have y6 : w4.cell? ⟨w.heap.size + 2, 6, none⟩ = some (.bool false) := by simp [World.cell?, hp4]
      have y7 : w4.cell? ⟨w.heap.size + 2, 7, none⟩ = some (.bool false) := by simp [World.cell?, hp4]
      have y8 : w4.cell? ⟨w.heap.size + 2, 8, none⟩ = some (.bool false) := by simp [World.cell?, hp4]
      have yz : ∀ k, w4.frozen? ⟨w.heap.size + 2, k, none⟩ = false := fun k => by simp [World.frozen?, hp4]
      have HR9 := hide (put9n (c0 := .bool false) (c1 := .bool a1) (c2 := .bool a2) (c3 := .bool a3) (c4 := .bool a4) (c5 := .bool a5) (c6 := .bool a6) (c7 := .bool a7) (c8 := .bool true) hp4)
      have HG9 := hide (grown9 w4 (w.heap.size + 2) (.bool false) (.bool a1) (.bool a2) (.bool a3) (.bool a4) (.bool a5) (.bool a6) (.bool a7) (.bool true))
      have HM9 := hide (hm4.other ⟨_, _, _, hp4, by decide, by decide, by decide⟩ HG9.out)
      have HK9 := hide (HK4.out.new HG9.out (by omega))
      clear hm4 hk4 hr4 hp4 n0 n1' n2'
      go_wp2_with fail
      refine bodyPost_ret (results_rul (fn := Try.f20) rfl _ _ (w.heap.size + 2) #[.bool false, .bool a1, .bool a2, .bool a3, .bool a4, .bool a5, .bool a6, .bool a7, .bool true] rfl HR9.out rfl) rfl ?_
      exact ⟨by first | rfl | (rw [HAB.out]; rfl) | simp, ⟨_, HM9.out⟩, HK9.out⟩
    | false =>
      have HM3 := hide (HM2.out.below (below_alloc w2 (.cells #[.bool false, .bool a1, .bool a2, .bool a3, .bool a4, .bool a5, .bool a6, .bool a7, .bool ms] 60)))
      have HK3 := hide (HK2.out.below (below_alloc w2 (.cells #[.bool false, .bool a1, .bool a2, .bool a3, .bool a4, .bool a5, .bool a6, .bool a7, .bool ms] 60)))
      have HR3 := hide (heap_alloc_new w2 (.cells #[.bool false, .bool a1, .bool a2, .bool a3, .bool a4, .bool a5, .bool a6, .bool a7, .bool ms] 60))
      have HP3 : Hid ((w2.alloc (.cells #[.bool false, .bool a1, .bool a2, .bool a3, .bool a4, .bool a5, .bool a6, .bool a7, .bool ms] 60)).heap[w.heap.size]? = some (.cells #[.bool bj, .bool bi, .func (.func n1) #[] #[], .func (.func n2) #[] #[]] 65 (0, 0)) ∧ (w2.alloc (.cells #[.bool false, .bool a1, .bool a2, .bool a3, .bool a4, .bool a5, .bool a6, .bool a7, .bool ms] 60)).heap[w.heap.size + 1]? = some (.cells #[.int .i64 ek, .int .i64 eo, .int .i64 en, .int .i64 el, .int .i64 ej, .int .i64 eb, .int .i64 ei, .int .i64 ec, .int .i64 es, .int .i64 er, .int .u64 ew, .string ex, .slice q et.length cq] 43 (0, 0)) ∧ (w2.alloc (.cells #[.bool false, .bool a1, .bool a2, .bool a3, .bool a4, .bool a5, .bool a6, .bool a7, .bool ms] 60)).heap[w.heap.size + 2]? = some (.cells #[.bool false, .bool false, .bool false, .bool false, .bool false, .bool false, .bool false, .bool false, .bool false] 60 (0, 0))) := hide ⟨(Below.heap_alloc _ _ _ n0).trans HP2.out.1, (Below.heap_alloc _ _ _ n1').trans HP2.out.2.1, (Below.heap_alloc _ _ _ n2').trans HP2.out.2.2⟩
      go_wp2_with fail
      refine (HBe'.out _ _ HM3.out (HB0.out _ HK3.out)).mono ?_
      rintro e w4 ⟨rfl, ⟨s4, hm4⟩, hk4⟩
      have HM4 := hide hm4
      have HK4 := hide (HK3.out.trans hk4)
      have hr4 := blk_kt hk4 HR3.out (by decide) (by decide) (by decide)
      have hp4 := blk_kt hk4 HP3.out.2.2 (by decide) (by decide) (by decide)
      have r0 : w4.cell? ⟨w2.heap.size, 0, none⟩ = some (.bool false) := by simp [World.cell?, hr4]
      have r1 : w4.cell? ⟨w2.heap.size, 1, none⟩ = some (.bool a1) := by simp [World.cell?, hr4]
      have r2 : w4.cell? ⟨w2.heap.size, 2, none⟩ = some (.bool a2) := by simp [World.cell?, hr4]
      have r3 : w4.cell? ⟨w2.heap.size, 3, none⟩ = some (.bool a3) := by simp [World.cell?, hr4]
      have r4 : w4.cell? ⟨w2.heap.size, 4, none⟩ = some (.bool a4) := by simp [World.cell?, hr4]
      have r5 : w4.cell? ⟨w2.heap.size, 5, none⟩ = some (.bool a5) := by simp [World.cell?, hr4]
      have r6 : w4.cell? ⟨w2.heap.size, 6, none⟩ = some (.bool a6) := by simp [World.cell?, hr4]
      have r7 : w4.cell? ⟨w2.heap.size, 7, none⟩ = some (.bool a7) := by simp [World.cell?, hr4]
      have r8 : w4.cell? ⟨w2.heap.size, 8, none⟩ = some (.bool ms) := by simp [World.cell?, hr4]
      have y0 : w4.cell? ⟨w.heap.size + 2, 0, none⟩ = some (.bool false) := by simp [World.cell?, hp4]
      have y1 : w4.cell? ⟨w.heap.size + 2, 1, none⟩ = some (.bool false) := by simp [World.cell?, hp4]
      have y2 : w4.cell? ⟨w.heap.size + 2, 2, none⟩ = some (.bool false) := by simp [World.cell?, hp4]
      have y3 : w4.cell? ⟨w.heap.size + 2, 3, none⟩ = some (.bool false) := by simp [World.cell?, hp4]
      have y4 : w4.cell? ⟨w.heap.size + 2, 4, none⟩ = some (.bool false) := by simp [World.cell?, hp4]
      have y5 : w4.cell? ⟨w.heap.size + 2, 5, none⟩ = some (.bool false) := by simp [World.cell?, hp4]
      have y6 : w4.cell? ⟨w.heap.size + 2, 6, none⟩ = some (.bool false) := by simp [World.cell?, hp4]
      have y7 : w4.cell? ⟨w.heap.size + 2, 7, none⟩ = some (.bool false) := by simp [World.cell?, hp4]
      have y8 : w4.cell? ⟨w.heap.size + 2, 8, none⟩ = some (.bool false) := by simp [World.cell?, hp4]
      have yz : ∀ k, w4.frozen? ⟨w.heap.size + 2, k, none⟩ = false := fun k => by simp [World.frozen?, hp4]
      have HR9 := hide (put9n (c0 := .bool false) (c1 := .bool a1) (c2 := .bool a2) (c3 := .bool a3) (c4 := .bool a4) (c5 := .bool a5) (c6 := .bool a6) (c7 := .bool a7) (c8 := .bool ms) hp4)
      have HG9 := hide (grown9 w4 (w.heap.size + 2) (.bool false) (.bool a1) (.bool a2) (.bool a3) (.bool a4) (.bool a5) (.bool a6) (.bool a7) (.bool ms))
      have HM9 := hide (hm4.other ⟨_, _, _, hp4, by decide, by decide, by decide⟩ HG9.out)
      have HK9 := hide (HK4.out.new HG9.out (by omega))
      clear hm4 hk4 hr4 hp4 n0 n1' n2'
      go_wp2_with fail
      refine bodyPost_ret (results_rul (fn := Try.f20) rfl _ _ (w.heap.size + 2) #[.bool false, .bool a1, .bool a2, .bool a3, .bool a4, .bool a5, .bool a6, .bool a7, .bool ms] rfl HR9.out rfl) rfl ?_
      exact ⟨by first | rfl | (rw [HAB.out]; rfl) | simp, ⟨_, HM9.out⟩, HK9.out⟩
end
end Go.Proofs.Ytjfgmdiafhkbgaa
