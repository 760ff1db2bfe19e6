import Derived.Test.YtjfgmdiafhkbgaaAuBg
import Derived.Test.YtjfgmdiafhkbgaaActV
namespace Go.Proofs.Ytjfgmdiafhkbgaa
open Go.RowKit Go.MapKept
set_option maxRecDepth 8000
set_option linter.unusedSimpArgs false

theorem bs1 {ρ : Operand → Value} {o : Oper} {x : Operand} (ho : o.op = .buildSlice 22 1 #[(0, x)]) {ek eo en el ej eb ei ec es er ew : Int} {ex : ByteArray} {q : Option Addr} {n cq : Nat} (hx : ρ x = .agg #[.int .i64 ek, .int .i64 eo, .int .i64 en, .int .i64 el, .int .i64 ej, .int .i64 eb, .int .i64 ei, .int .i64 ec, .int .i64 es, .int .i64 er, .int .u64 ew, .string ex, .slice q n cq]) (w : World) :
    (execOp ρ o).run Try.prog w = .ok (.value (.slice (some ⟨w.heap.size, 0, none⟩) 1 1)) (w.alloc (.cells #[.int .i64 ek, .int .i64 eo, .int .i64 en, .int .i64 el, .int .i64 ej, .int .i64 eb, .int .i64 ei, .int .i64 ec, .int .i64 es, .int .i64 er, .int .u64 ew, .string ex, .slice q n cq] 43)) := by
  unfold execOp
  simp only [ho, List.map_toArray, List.map_cons, List.map_nil, hx]
  clear ho hx
  go_simp
theorem hset2 {w : World} {g : Nat} {a0 b0 : Value} {t : TypeId} (a b : Value) (h : w.heap[g]? = some (.cells #[a0, b0] t (0, 0))) : ((w.setCell ⟨g, 0, none⟩ a).setCell ⟨g, 1, none⟩ b).heap[g]? = some (.cells #[a, b] t (0, 0)) := by
  have h1 := heap_setCell_same _ _ 1 _ _ b (heap_setCell_same _ _ 0 _ _ a h)
  simpa using h1
theorem st1 {ρ : Operand → Value} {o : Oper} {x y : Operand} (ho : o.op = .store 25 x y) {g : Nat} {a b a0 b0 : Int} (hx : ρ x = .pointer (some ⟨g, 0, none⟩)) (hy : ρ y = .agg #[.int .i64 a, .int .i64 b]) {w : World} (f0 : w.cell? ⟨g, 0, none⟩ = some (.int .i64 a0)) (f1 : w.cell? ⟨g, 1, none⟩ = some (.int .i64 b0)) (z0 : w.frozen? ⟨g, 0, none⟩ = false) (z1 : w.frozen? ⟨g, 1, none⟩ = false) :
    (execOp ρ o).run Try.prog w = .ok .skip ((w.setCell ⟨g, 0, none⟩ (.int .i64 a)).setCell ⟨g, 1, none⟩ (.int .i64 b)) := by
  unfold execOp
  simp only [ho, hx, hy]
  clear ho hx hy
  go_simp
theorem sA {P : Program} {Q : Exit → Act → World → Prop} {ops : Array Oper} {o : Oper} {a : Act} {K : Act → World → Prop} {E : Prop} (d : Nat) (s x : Operand) (t : TypeId) (hd : o.dst = some d) (hg : o.guard = none)
    (ho : o.op = .call { callee := .builtin .append, args := #[s, x], argTypes := #[t, t] }) {v xv v' : Value} {w w' : World} (hs : a.eval s = v) (hx : a.eval x = xv) (hr : (Builtin.append_ #[t, t] o.type #[v, xv]).run P w = .ok v' w') (h : K (a.put (some d) v') w') :
    if Region.wanted o (yielded ops a.tmps) = true then Oper.wp P o a w K Q else E := step_append_run hg s x t ho hs hx hr (by rw [hd]; exact h)
set_option maxHeartbeats 16000000 in
/-- the event handed on behind all others, whatever the order -/
theorem reg22 {a : Act} {wr : World} {p : Option Addr} {cap bx : Nat} {l : List Ev} {L : List (Ev × Value)} {ek eo en el ej eb ei ec es er ew : Int} {ex : ByteArray} {et : List ByteArray} {q : Option Addr} {cq fr fa : Nat} {bb : Bool}
    (h0 : a.eval (.tmp 0) = .slice p l.length cap) (h3 : a.eval (.tmp 3) = .pointer (some ⟨bx, 0, none⟩)) (hsz : 190 < a.tmps.size) (hLb : L.length ≤ 65536)
    (HSrc1 : Hid (∀ V, Below wr.heap.size wr V → Srv V (.slice p l.length cap) L)) (HT1 : Hid (∀ V, Below wr.heap.size wr V → EvT V L)) (HTx : Hid (∀ V, Below wr.heap.size wr V → EvT V [((⟨ek, eo, en, el, ej, eb, ei, ec, es, er, ew, ex, et⟩ : Ev), Value.slice q et.length cq)]))
    (HXc : Hid (∀ V : World, Below wr.heap.size wr V → V.cell? ⟨bx, 0, none⟩ = some (.int .i64 ek) ∧ V.cell? ⟨bx, 1, none⟩ = some (.int .i64 eo) ∧ V.cell? ⟨bx, 2, none⟩ = some (.int .i64 en) ∧ V.cell? ⟨bx, 3, none⟩ = some (.int .i64 el) ∧ V.cell? ⟨bx, 4, none⟩ = some (.int .i64 ej) ∧ V.cell? ⟨bx, 5, none⟩ = some (.int .i64 eb) ∧ V.cell? ⟨bx, 6, none⟩ = some (.int .i64 ei) ∧ V.cell? ⟨bx, 7, none⟩ = some (.int .i64 ec) ∧ V.cell? ⟨bx, 8, none⟩ = some (.int .i64 es) ∧ V.cell? ⟨bx, 9, none⟩ = some (.int .i64 er) ∧ V.cell? ⟨bx, 10, none⟩ = some (.int .u64 ew) ∧ V.cell? ⟨bx, 11, none⟩ = some (.string ex) ∧ V.cell? ⟨bx, 12, none⟩ = some (.slice q et.length cq)))
    (HFin : Hid (∀ V u, V.ownsRow wr.heap.size 43 13 u (0 + L.length + [((⟨ek, eo, en, el, ej, eb, ei, ec, es, er, ew, ex, et⟩ : Ev), Value.slice q et.length cq)].length) ([] ++ evs L ++ evs [(⟨ek, eo, en, el, ej, eb, ei, ec, es, er, ew, ex, et⟩, Value.slice q et.length cq)]) → Below wr.heap.size wr V → Rv V u (l ++ [⟨ek, eo, en, el, ej, eb, ei, ec, es, er, ew, ex, et⟩])))
    (HA2 : Hid (∀ V u, Rv V u (l ++ [⟨ek, eo, en, el, ej, eb, ei, ec, es, er, ew, ex, et⟩]) → Calls Try.prog 7 #[u] V fun e w' => e = .returned (.tuple #[.agg #[.int .i64 (fr : Int), .int .i64 (fa : Int)], .bool bb, .int .i64 0]) ∧ Below V.heap.size V w')) :
    (Code.region 22 #[{ dst := some 163, op := Go.Op.buildSlice 22 0 #[], type := 22, pos := "more.go:69", after := #[], guard := none }, { dst := some 164, op := Go.Op.move (Go.Operand.tmp 0), type := 22, pos := "more.go:69", after := #[], guard := none }, { dst := some 165, op := Go.Op.call { callee := Go.Callee.builtin Go.Builtin.append, args := #[Go.Operand.tmp 163, Go.Operand.tmp 164], argTypes := #[22, 22] }, type := 22, pos := "more.go:69", after := #[{ on := 0, ground := Go.Ground.data }, { on := 1, ground := Go.Ground.data }], guard := none }, { dst := some 166, op := Go.Op.load 43 (Go.Operand.tmp 3), type := 43, pos := "more.go:69", after := #[], guard := none }, { dst := some 167, op := Go.Op.buildSlice 22 1 #[(0, Go.Operand.tmp 166)], type := 22, pos := "more.go:69", after := #[{ on := 3, ground := Go.Ground.data }], guard := none }, { dst := some 168, op := Go.Op.call { callee := Go.Callee.builtin Go.Builtin.append, args := #[Go.Operand.tmp 165, Go.Operand.tmp 167], argTypes := #[22, 22] }, type := 22, pos := "more.go:69", after := #[{ on := 2, ground := Go.Ground.data }, { on := 4, ground := Go.Ground.data }, { on := 2, ground := Go.Ground.chain }], guard := none }, { dst := some 169, op := Go.Op.call { callee := Go.Callee.value (Go.Operand.func 7), args := #[Go.Operand.tmp 168], argTypes := #[22] }, type := 27, pos := "more.go:69", after := #[{ on := 5, ground := Go.Ground.data }, { on := 5, ground := Go.Ground.chain }], guard := none }, { dst := some 162, op := Go.Op.move (Go.Operand.tmp 169), type := 27, pos := "more.go:69", after := #[{ on := 6, ground := Go.Ground.data }], guard := none }, { dst := some 170, op := Go.Op.extract (Go.Operand.tmp 162) 0, type := 25, pos := "more.go:69", after := #[{ on := 7, ground := Go.Ground.data }], guard := none }, { dst := some 171, op := Go.Op.extract (Go.Operand.tmp 162) 1, type := 4, pos := "more.go:69", after := #[{ on := 7, ground := Go.Ground.data }, { on := 12, ground := Go.Ground.gcOnly Go.Departure.lateStores }], guard := none }, { dst := some 172, op := Go.Op.extract (Go.Operand.tmp 162) 2, type := 26, pos := "more.go:69", after := #[{ on := 7, ground := Go.Ground.data }, { on := 13, ground := Go.Ground.gcOnly Go.Departure.lateStores }], guard := none }, { dst := some 13, op := Go.Op.alloc 25, type := 0, pos := "more.go:69", after := #[], guard := none }, { dst := none, op := Go.Op.store 25 (Go.Operand.tmp 13) (Go.Operand.tmp 170), type := 0, pos := "more.go:69", after := #[{ on := 11, ground := Go.Ground.data }, { on := 8, ground := Go.Ground.data }, { on := 6, ground := Go.Ground.chain }, { on := 0, ground := Go.Ground.phase }, { on := 1, ground := Go.Ground.phase }, { on := 2, ground := Go.Ground.phase }, { on := 3, ground := Go.Ground.phase }, { on := 4, ground := Go.Ground.phase }, { on := 5, ground := Go.Ground.phase }, { on := 6, ground := Go.Ground.phase }, { on := 7, ground := Go.Ground.phase }, { on := 8, ground := Go.Ground.phase }, { on := 9, ground := Go.Ground.textOnly Go.Departure.lateStores }, { on := 10, ground := Go.Ground.textOnly Go.Departure.lateStores }, { on := 11, ground := Go.Ground.phase }], guard := none }, { dst := some 6, op := Go.Op.assign (Go.Operand.tmp 171), type := 4, pos := "more.go:69", after := #[{ on := 9, ground := Go.Ground.data }, { on := 12, ground := Go.Ground.chain }, { on := 0, ground := Go.Ground.phase }, { on := 1, ground := Go.Ground.phase }, { on := 2, ground := Go.Ground.phase }, { on := 3, ground := Go.Ground.phase }, { on := 4, ground := Go.Ground.phase }, { on := 5, ground := Go.Ground.phase }, { on := 6, ground := Go.Ground.phase }, { on := 7, ground := Go.Ground.phase }, { on := 8, ground := Go.Ground.phase }, { on := 9, ground := Go.Ground.phase }, { on := 10, ground := Go.Ground.textOnly Go.Departure.lateStores }, { on := 11, ground := Go.Ground.phase }, { on := 12, ground := Go.Ground.phase }], guard := none }, { dst := some 14, op := Go.Op.assign (Go.Operand.tmp 172), type := 26, pos := "more.go:69", after := #[{ on := 10, ground := Go.Ground.data }, { on := 13, ground := Go.Ground.chain }, { on := 0, ground := Go.Ground.phase }, { on := 1, ground := Go.Ground.phase }, { on := 2, ground := Go.Ground.phase }, { on := 3, ground := Go.Ground.phase }, { on := 4, ground := Go.Ground.phase }, { on := 5, ground := Go.Ground.phase }, { on := 6, ground := Go.Ground.phase }, { on := 7, ground := Go.Ground.phase }, { on := 8, ground := Go.Ground.phase }, { on := 9, ground := Go.Ground.phase }, { on := 10, ground := Go.Ground.phase }, { on := 11, ground := Go.Ground.phase }, { on := 12, ground := Go.Ground.phase }, { on := 13, ground := Go.Ground.phase }], guard := none }] true).wp Try.prog (fun e a' W => e = .normal ∧ ∃ (vA vB vC vD : Value) (g : Nat), a' = putAll a [(163, vA), (164, .slice p l.length cap), (165, vB), (166, .agg #[.int .i64 ek, .int .i64 eo, .int .i64 en, .int .i64 el, .int .i64 ej, .int .i64 eb, .int .i64 ei, .int .i64 ec, .int .i64 es, .int .i64 er, .int .u64 ew, .string ex, .slice q et.length cq]), (167, vC), (168, vD), (169, .tuple #[.agg #[.int .i64 (fr : Int), .int .i64 (fa : Int)], .bool bb, .int .i64 0]), (162, .tuple #[.agg #[.int .i64 (fr : Int), .int .i64 (fa : Int)], .bool bb, .int .i64 0]), (170, .agg #[.int .i64 (fr : Int), .int .i64 (fa : Int)]), (171, .bool bb), (172, .int .i64 0), (13, .pointer (some ⟨g, 0, none⟩)), (6, .bool bb), (14, .int .i64 0)] ∧ Hid (W.heap[g]? = some (.cells #[.int .i64 (fr : Int), .int .i64 (fa : Int)] 25 (0, 0))) ∧ Hid (Below wr.heap.size wr W)) a wr := by
  have HS0 : Hid (Below wr.heap.size wr wr.drew) := hide ((Below.refl _ _).drew)
  refine wp_region_held_drew (S := fun V => Below wr.heap.size wr V) (by kernel_rfl) (HS0.out) (fun hHeld => ?_)
  generalize wr.drew = W0 at *
  refine wU 1 164 (.slice p l.length cap) (hQ := fun _ _ _ h => by cases h.1) (y := fun w1 hSw => by simp (disch := first | decide | omega | (simp only [pe_size]; omega)) only [List.getElem_toArray, List.getElem_cons_succ, List.getElem_cons_zero, List.map_toArray, List.map_cons, List.map_nil, execOp, pe_ne, pe_same, h0, h3]; kernel_rfl) (s := hHeld) (h := ?_)
  refine wU 3 166 (.agg #[.int .i64 ek, .int .i64 eo, .int .i64 en, .int .i64 el, .int .i64 ej, .int .i64 eb, .int .i64 ei, .int .i64 ec, .int .i64 es, .int .i64 er, .int .u64 ew, .string ex, .slice q et.length cq]) (hQ := fun _ _ _ h => by cases h.1) (y := fun w1 hSw => by obtain ⟨g0, g1, g2, g3, g4, g5, g6, g7, g8, g9, g10, g11, g12⟩ := HXc.out _ hSw; simp (disch := first | decide | omega | (simp only [pe_size]; omega)) only [List.getElem_toArray, List.getElem_cons_succ, List.getElem_cons_zero, List.map_toArray, List.map_cons, List.map_nil, execOp, pe_ne, pe_same, h0, h3]; go_simp) (s := hHeld) (h := ?_)
  refine wpAnyH_ready (rs := [0, 4, 11]) (by kernel_rfl) (by simp) ?_
  refine AllReadyH.cons rfl (fun K hK => ?_) (AllReadyH.cons rfl (fun K hK => ?_) (AllReadyH.cons rfl (fun K hK => ?_) AllReadyH.nil))
  · clear hHeld
    obtain ⟨W1, hw⟩ : ∃ V, V = W0.alloc (.cells #[] 43) := ⟨_, rfl⟩
    refine sV 163 (.slice (some ⟨W0.heap.size, 0, none⟩) 0 0) W1 rfl rfl (by rw [hw]; kernel_rfl) ?_
    have hb : Below W0.heap.size W0 W1 := by rw [hw]; exact below_alloc _ _
    have HS1 : Hid (Below wr.heap.size wr W1) := hide (HS0.out.trans (hb.mono HS0.out.size))
    have HA : Hid (W1.ownsRow wr.heap.size 43 13 (.slice (some ⟨W0.heap.size, 0, none⟩) 0 0) 0 []) := hide (by rw [hw]; exact World.ownsRow_made W0 #[] 0 HS0.out.size (by decide) rfl)
    clear hw hb
    refine hK.out _ _ (HS1.out) (fun hHeld => ?_)
    clear hK K
    refine wpAnyH_ready (rs := [2, 4, 11]) (by kernel_rfl) (by simp) ?_
    refine AllReadyH.cons rfl (fun K hK => ?_) (AllReadyH.cons rfl (fun K hK => ?_) (AllReadyH.cons rfl (fun K hK => ?_) AllReadyH.nil))
    · clear hHeld
      obtain ⟨vB, W2, hrun, hown, hgrow, hbB, aB, cB, hvB⟩ := run_srv HA.out (HSrc1.out W1 HS1.out) (HT1.out W1 HS1.out) (by first | omega | (simp only [List.length_singleton]; omega)) (by first | omega | (simp only [List.length_singleton]; omega)) HS1.out.size
      have HS2 : Hid (Below wr.heap.size wr W2) := hide (HS1.out.trans hbB)
      have HRun := hide hrun
      have HB := hide hown
      clear hrun hown hgrow hbB hvB
      refine sA 165 (.tmp 163) (.tmp 164) 22 rfl rfl rfl (by simp (disch := first | decide | omega | (simp only [pe_size]; omega)) only [List.getElem_toArray, List.getElem_cons_succ, List.getElem_cons_zero, List.map_toArray, List.map_cons, List.map_nil, execOp, pe_ne, pe_same, h0, h3]) (by simp (disch := first | decide | omega | (simp only [pe_size]; omega)) only [List.getElem_toArray, List.getElem_cons_succ, List.getElem_cons_zero, List.map_toArray, List.map_cons, List.map_nil, execOp, pe_ne, pe_same, h0, h3]) HRun.out ?_
      clear HRun
      refine hK.out _ _ (HS2.out) (fun hHeld => ?_)
      clear hK K
      refine wpAnyH_ready (rs := [4, 11]) (by kernel_rfl) (by simp) ?_
      refine AllReadyH.cons rfl (fun K hK => ?_) (AllReadyH.cons rfl (fun K hK => ?_) AllReadyH.nil)
      · clear hHeld
        obtain ⟨W3, hw⟩ : ∃ V, V = W2.alloc (.cells #[.int .i64 ek, .int .i64 eo, .int .i64 en, .int .i64 el, .int .i64 ej, .int .i64 eb, .int .i64 ei, .int .i64 ec, .int .i64 es, .int .i64 er, .int .u64 ew, .string ex, .slice q et.length cq] 43) := ⟨_, rfl⟩
        refine sV 167 (.slice (some ⟨W2.heap.size, 0, none⟩) 1 1) W3 rfl rfl (by rw [hw]; exact bs1 rfl (by simp (disch := first | decide | omega | (simp only [pe_size]; omega)) only [List.getElem_toArray, List.getElem_cons_succ, List.getElem_cons_zero, List.map_toArray, List.map_cons, List.map_nil, execOp, pe_ne, pe_same, h0, h3]) _) ?_
        have hb : Below W2.heap.size W2 W3 := by rw [hw]; exact below_alloc _ _
        have HS3 : Hid (Below wr.heap.size wr W3) := hide (HS2.out.trans (hb.mono HS2.out.size))
        replace HB := hide (own_keep HB.out fun k e => hb.block k (HB.out.lt k e).2)
        have HC : Hid (W3.heap[W2.heap.size]? = some (.cells #[.int .i64 ek, .int .i64 eo, .int .i64 en, .int .i64 el, .int .i64 ej, .int .i64 eb, .int .i64 ei, .int .i64 ec, .int .i64 es, .int .i64 er, .int .u64 ew, .string ex, .slice q et.length cq] 43 (0, 0))) := hide (by rw [hw]; exact heap_alloc_new _ _)
        clear hw hb
        refine hK.out _ _ (HS3.out) (fun hHeld => ?_)
        clear hK K
        refine wpAnyH_ready (rs := [5, 11]) (by kernel_rfl) (by simp) ?_
        refine AllReadyH.cons rfl (fun K hK => ?_) (AllReadyH.cons rfl (fun K hK => ?_) AllReadyH.nil)
        · clear hHeld
          obtain ⟨vD, W4, hrun, hown, hgrow, hbB, aD, cD, hvD⟩ := run_srv HB.out (Srv.one (x := ⟨ek, eo, en, el, ej, eb, ei, ec, es, er, ew, ex, et⟩) (t := .slice q et.length cq) HC.out) (HTx.out W3 HS3.out) (by first | omega | (simp only [List.length_singleton]; omega)) (by first | omega | (simp only [List.length_singleton]; omega)) HS3.out.size
          have HS4 : Hid (Below wr.heap.size wr W4) := hide (HS3.out.trans hbB)
          have HRun := hide hrun
          have HD := hide hown
          clear hrun hown hgrow hbB hvD
          refine sA 168 (.tmp 165) (.tmp 167) 22 rfl rfl rfl (by simp (disch := first | decide | omega | (simp only [pe_size]; omega)) only [List.getElem_toArray, List.getElem_cons_succ, List.getElem_cons_zero, List.map_toArray, List.map_cons, List.map_nil, execOp, pe_ne, pe_same, h0, h3]) (by simp (disch := first | decide | omega | (simp only [pe_size]; omega)) only [List.getElem_toArray, List.getElem_cons_succ, List.getElem_cons_zero, List.map_toArray, List.map_cons, List.map_nil, execOp, pe_ne, pe_same, h0, h3]) HRun.out ?_
          clear HRun
          refine hK.out _ _ (HS4.out) (fun hHeld => ?_)
          clear hK K
          refine wpAnyH_ready (rs := [6, 11]) (by kernel_rfl) (by simp) ?_
          refine AllReadyH.cons rfl (fun K hK => ?_) (AllReadyH.cons rfl (fun K hK => ?_) AllReadyH.nil)
          · clear hHeld
            refine sC 169 (.tuple #[.agg #[.int .i64 (fr : Int), .int .i64 (fa : Int)], .bool bb, .int .i64 0]) rfl rfl (by simp (disch := first | decide | omega | (simp only [pe_size]; omega)) only [List.getElem_toArray, List.getElem_cons_succ, List.getElem_cons_zero, List.map_toArray, List.map_cons, List.map_nil, execOp, pe_ne, pe_same, h0, h3, resolve]; kernel_rfl) (HA2.out _ _ (HFin.out _ _ HD.out HS4.out)) ?_
            rintro W5 hb
            have HS5 : Hid (Below wr.heap.size wr W5) := hide (HS4.out.trans (hb.mono HS4.out.size))
            replace HD := hide (own_keep HD.out fun k e => hb.block k (HD.out.lt k e).2)
            clear hb
            refine hK.out _ _ (HS5.out) (fun hHeld => ?_)
            clear hK K
            refine wU 7 162 (.tuple #[.agg #[.int .i64 (fr : Int), .int .i64 (fa : Int)], .bool bb, .int .i64 0]) (hQ := fun _ _ _ h => by cases h.1) (y := fun w1 hSw => by simp (disch := first | decide | omega | (simp only [pe_size]; omega)) only [List.getElem_toArray, List.getElem_cons_succ, List.getElem_cons_zero, List.map_toArray, List.map_cons, List.map_nil, execOp, pe_ne, pe_same, h0, h3]; kernel_rfl) (s := hHeld) (h := ?_)
            refine wU 8 170 (.agg #[.int .i64 (fr : Int), .int .i64 (fa : Int)]) (hQ := fun _ _ _ h => by cases h.1) (y := fun w1 hSw => by simp (disch := first | decide | omega | (simp only [pe_size]; omega)) only [List.getElem_toArray, List.getElem_cons_succ, List.getElem_cons_zero, List.map_toArray, List.map_cons, List.map_nil, execOp, pe_ne, pe_same, h0, h3]; kernel_rfl) (s := hHeld) (h := ?_)
            refine wU 9 171 (.bool bb) (hQ := fun _ _ _ h => by cases h.1) (y := fun w1 hSw => by simp (disch := first | decide | omega | (simp only [pe_size]; omega)) only [List.getElem_toArray, List.getElem_cons_succ, List.getElem_cons_zero, List.map_toArray, List.map_cons, List.map_nil, execOp, pe_ne, pe_same, h0, h3]; kernel_rfl) (s := hHeld) (h := ?_)
            refine wU 10 172 (.int .i64 0) (hQ := fun _ _ _ h => by cases h.1) (y := fun w1 hSw => by simp (disch := first | decide | omega | (simp only [pe_size]; omega)) only [List.getElem_toArray, List.getElem_cons_succ, List.getElem_cons_zero, List.map_toArray, List.map_cons, List.map_nil, execOp, pe_ne, pe_same, h0, h3]; kernel_rfl) (s := hHeld) (h := ?_)
            refine wpAnyH_ready (rs := [11]) (by kernel_rfl) (by simp) ?_
            refine AllReadyH.cons rfl (fun K hK => ?_) AllReadyH.nil
            clear hHeld
            obtain ⟨W6, hw⟩ : ∃ V, V = W5.alloc (.cells #[.int .i64 0, .int .i64 0] 25) := ⟨_, rfl⟩
            refine sV 13 (.pointer (some ⟨W5.heap.size, 0, none⟩)) W6 rfl rfl (by rw [hw]; kernel_rfl) ?_
            have hb : Below W5.heap.size W5 W6 := by rw [hw]; exact below_alloc _ _
            have HS6 : Hid (Below wr.heap.size wr W6) := hide (HS5.out.trans (hb.mono HS5.out.size))
            have HF : Hid (W6.heap[W5.heap.size]? = some (.cells #[.int .i64 0, .int .i64 0] 25 (0, 0))) := hide (by rw [hw]; exact heap_alloc_new _ _)
            clear hw hb
            refine hK.out _ _ (HS6.out) (fun hHeld => ?_)
            clear hK K
            clear hHeld
            obtain ⟨f0, f1, fz⟩ := two_of HF.out
            have fz0 := fz 0
            have fz1 := fz 1
            clear fz
            obtain ⟨W7, hw⟩ : ∃ V, V = (W6.setCell ⟨W5.heap.size, 0, none⟩ (.int .i64 (fr : Int))).setCell ⟨W5.heap.size, 1, none⟩ (.int .i64 (fa : Int)) := ⟨_, rfl⟩
            have HS7 : Hid (Below wr.heap.size wr W7) := hide (by rw [hw]; exact (HS6.out.setCell (p := ⟨W5.heap.size, 0, none⟩) HS5.out.size _).setCell (p := ⟨W5.heap.size, 1, none⟩) HS5.out.size _)
            have HZ : Hid (W7.heap[W5.heap.size]? = some (.cells #[.int .i64 (fr : Int), .int .i64 (fa : Int)] 25 (0, 0))) := hide (by rw [hw]; exact hset2 _ _ HF.out)
            refine one_store W7 (i := 12) (by kernel_rfl) rfl rfl rfl (by rw [hw]; exact st1 rfl (by simp (disch := first | decide | omega | (simp only [pe_size]; omega)) only [List.getElem_toArray, List.getElem_cons_succ, List.getElem_cons_zero, List.map_toArray, List.map_cons, List.map_nil, execOp, pe_ne, pe_same, h0, h3]) (by simp (disch := first | decide | omega | (simp only [pe_size]; omega)) only [List.getElem_toArray, List.getElem_cons_succ, List.getElem_cons_zero, List.map_toArray, List.map_cons, List.map_nil, execOp, pe_ne, pe_same, h0, h3]) f0 f1 fz0 fz1) (HS7.out) (fun hHeld => ?_)
            clear hw f0 f1 fz0 fz1
            refine wU 13 6 (.bool bb) (hQ := fun _ _ _ h => by cases h.1) (y := fun w1 hSw => by simp (disch := first | decide | omega | (simp only [pe_size]; omega)) only [List.getElem_toArray, List.getElem_cons_succ, List.getElem_cons_zero, List.map_toArray, List.map_cons, List.map_nil, execOp, pe_ne, pe_same, h0, h3]; kernel_rfl) (s := hHeld) (h := ?_)
            refine wU 14 14 (.int .i64 0) (hQ := fun _ _ _ h => by cases h.1) (y := fun w1 hSw => by simp (disch := first | decide | omega | (simp only [pe_size]; omega)) only [List.getElem_toArray, List.getElem_cons_succ, List.getElem_cons_zero, List.map_toArray, List.map_cons, List.map_nil, execOp, pe_ne, pe_same, h0, h3]; kernel_rfl) (s := hHeld) (h := ?_)
            refine wpAnyH_done (by kernel_rfl) ?_ _
            exact ⟨rfl, _, _, _, _, _, (putAll_perm (perm_at (L := [(163, .slice (some ⟨W0.heap.size, 0, none⟩) 0 0), (164, .slice p l.length cap), (165, vB), (166, .agg #[.int .i64 ek, .int .i64 eo, .int .i64 en, .int .i64 el, .int .i64 ej, .int .i64 eb, .int .i64 ei, .int .i64 ec, .int .i64 es, .int .i64 er, .int .u64 ew, .string ex, .slice q et.length cq]), (167, .slice (some ⟨W2.heap.size, 0, none⟩) 1 1), (168, vD), (169, .tuple #[.agg #[.int .i64 (fr : Int), .int .i64 (fa : Int)], .bool bb, .int .i64 0]), (162, .tuple #[.agg #[.int .i64 (fr : Int), .int .i64 (fa : Int)], .bool bb, .int .i64 0]), (170, .agg #[.int .i64 (fr : Int), .int .i64 (fa : Int)]), (171, .bool bb), (172, .int .i64 0), (13, .pointer (some ⟨W5.heap.size, 0, none⟩)), (6, .bool bb), (14, .int .i64 0)]) [1, 3, 0, 2, 4, 5, 6, 7, 8, 9, 10, 11, 12, 13] (by show (List.range 14).Perm [1, 3, 0, 2, 4, 5, 6, 7, 8, 9, 10, 11, 12, 13]; decide)) (by show ([163, 164, 165, 166, 167, 168, 169, 162, 170, 171, 172, 13, 6, 14] : List Nat).Nodup; decide) a).symm, HZ, HS7⟩
          · clear hHeld
            obtain ⟨W5, hw⟩ : ∃ V, V = W4.alloc (.cells #[.int .i64 0, .int .i64 0] 25) := ⟨_, rfl⟩
            refine sV 13 (.pointer (some ⟨W4.heap.size, 0, none⟩)) W5 rfl rfl (by rw [hw]; kernel_rfl) ?_
            have hb : Below W4.heap.size W4 W5 := by rw [hw]; exact below_alloc _ _
            have HS5 : Hid (Below wr.heap.size wr W5) := hide (HS4.out.trans (hb.mono HS4.out.size))
            replace HD := hide (own_keep HD.out fun k e => hb.block k (HD.out.lt k e).2)
            have HF : Hid (W5.heap[W4.heap.size]? = some (.cells #[.int .i64 0, .int .i64 0] 25 (0, 0))) := hide (by rw [hw]; exact heap_alloc_new _ _)
            clear hw hb
            refine hK.out _ _ (HS5.out) (fun hHeld => ?_)
            clear hK K
            refine wpAnyH_ready (rs := [6]) (by kernel_rfl) (by simp) ?_
            refine AllReadyH.cons rfl (fun K hK => ?_) AllReadyH.nil
            clear hHeld
            refine sC 169 (.tuple #[.agg #[.int .i64 (fr : Int), .int .i64 (fa : Int)], .bool bb, .int .i64 0]) rfl rfl (by simp (disch := first | decide | omega | (simp only [pe_size]; omega)) only [List.getElem_toArray, List.getElem_cons_succ, List.getElem_cons_zero, List.map_toArray, List.map_cons, List.map_nil, execOp, pe_ne, pe_same, h0, h3, resolve]; kernel_rfl) (HA2.out _ _ (HFin.out _ _ HD.out HS5.out)) ?_
            rintro W6 hb
            have HS6 : Hid (Below wr.heap.size wr W6) := hide (HS5.out.trans (hb.mono HS5.out.size))
            replace HD := hide (own_keep HD.out fun k e => hb.block k (HD.out.lt k e).2)
            replace HF := hide ((hb.block _ (lt_of_block HF.out)).trans HF.out)
            clear hb
            refine hK.out _ _ (HS6.out) (fun hHeld => ?_)
            clear hK K
            refine wU 7 162 (.tuple #[.agg #[.int .i64 (fr : Int), .int .i64 (fa : Int)], .bool bb, .int .i64 0]) (hQ := fun _ _ _ h => by cases h.1) (y := fun w1 hSw => by simp (disch := first | decide | omega | (simp only [pe_size]; omega)) only [List.getElem_toArray, List.getElem_cons_succ, List.getElem_cons_zero, List.map_toArray, List.map_cons, List.map_nil, execOp, pe_ne, pe_same, h0, h3]; kernel_rfl) (s := hHeld) (h := ?_)
            refine wU 8 170 (.agg #[.int .i64 (fr : Int), .int .i64 (fa : Int)]) (hQ := fun _ _ _ h => by cases h.1) (y := fun w1 hSw => by simp (disch := first | decide | omega | (simp only [pe_size]; omega)) only [List.getElem_toArray, List.getElem_cons_succ, List.getElem_cons_zero, List.map_toArray, List.map_cons, List.map_nil, execOp, pe_ne, pe_same, h0, h3]; kernel_rfl) (s := hHeld) (h := ?_)
            refine wU 9 171 (.bool bb) (hQ := fun _ _ _ h => by cases h.1) (y := fun w1 hSw => by simp (disch := first | decide | omega | (simp only [pe_size]; omega)) only [List.getElem_toArray, List.getElem_cons_succ, List.getElem_cons_zero, List.map_toArray, List.map_cons, List.map_nil, execOp, pe_ne, pe_same, h0, h3]; kernel_rfl) (s := hHeld) (h := ?_)
            refine wU 10 172 (.int .i64 0) (hQ := fun _ _ _ h => by cases h.1) (y := fun w1 hSw => by simp (disch := first | decide | omega | (simp only [pe_size]; omega)) only [List.getElem_toArray, List.getElem_cons_succ, List.getElem_cons_zero, List.map_toArray, List.map_cons, List.map_nil, execOp, pe_ne, pe_same, h0, h3]; kernel_rfl) (s := hHeld) (h := ?_)
            clear hHeld
            obtain ⟨f0, f1, fz⟩ := two_of HF.out
            have fz0 := fz 0
            have fz1 := fz 1
            clear fz
            obtain ⟨W7, hw⟩ : ∃ V, V = (W6.setCell ⟨W4.heap.size, 0, none⟩ (.int .i64 (fr : Int))).setCell ⟨W4.heap.size, 1, none⟩ (.int .i64 (fa : Int)) := ⟨_, rfl⟩
            have HS7 : Hid (Below wr.heap.size wr W7) := hide (by rw [hw]; exact (HS6.out.setCell (p := ⟨W4.heap.size, 0, none⟩) HS4.out.size _).setCell (p := ⟨W4.heap.size, 1, none⟩) HS4.out.size _)
            have HZ : Hid (W7.heap[W4.heap.size]? = some (.cells #[.int .i64 (fr : Int), .int .i64 (fa : Int)] 25 (0, 0))) := hide (by rw [hw]; exact hset2 _ _ HF.out)
            refine one_store W7 (i := 12) (by kernel_rfl) rfl rfl rfl (by rw [hw]; exact st1 rfl (by simp (disch := first | decide | omega | (simp only [pe_size]; omega)) only [List.getElem_toArray, List.getElem_cons_succ, List.getElem_cons_zero, List.map_toArray, List.map_cons, List.map_nil, execOp, pe_ne, pe_same, h0, h3]) (by simp (disch := first | decide | omega | (simp only [pe_size]; omega)) only [List.getElem_toArray, List.getElem_cons_succ, List.getElem_cons_zero, List.map_toArray, List.map_cons, List.map_nil, execOp, pe_ne, pe_same, h0, h3]) f0 f1 fz0 fz1) (HS7.out) (fun hHeld => ?_)
            clear hw f0 f1 fz0 fz1
            refine wU 13 6 (.bool bb) (hQ := fun _ _ _ h => by cases h.1) (y := fun w1 hSw => by simp (disch := first | decide | omega | (simp only [pe_size]; omega)) only [List.getElem_toArray, List.getElem_cons_succ, List.getElem_cons_zero, List.map_toArray, List.map_cons, List.map_nil, execOp, pe_ne, pe_same, h0, h3]; kernel_rfl) (s := hHeld) (h := ?_)
            refine wU 14 14 (.int .i64 0) (hQ := fun _ _ _ h => by cases h.1) (y := fun w1 hSw => by simp (disch := first | decide | omega | (simp only [pe_size]; omega)) only [List.getElem_toArray, List.getElem_cons_succ, List.getElem_cons_zero, List.map_toArray, List.map_cons, List.map_nil, execOp, pe_ne, pe_same, h0, h3]; kernel_rfl) (s := hHeld) (h := ?_)
            refine wpAnyH_done (by kernel_rfl) ?_ _
            exact ⟨rfl, _, _, _, _, _, (putAll_perm (perm_at (L := [(163, .slice (some ⟨W0.heap.size, 0, none⟩) 0 0), (164, .slice p l.length cap), (165, vB), (166, .agg #[.int .i64 ek, .int .i64 eo, .int .i64 en, .int .i64 el, .int .i64 ej, .int .i64 eb, .int .i64 ei, .int .i64 ec, .int .i64 es, .int .i64 er, .int .u64 ew, .string ex, .slice q et.length cq]), (167, .slice (some ⟨W2.heap.size, 0, none⟩) 1 1), (168, vD), (169, .tuple #[.agg #[.int .i64 (fr : Int), .int .i64 (fa : Int)], .bool bb, .int .i64 0]), (162, .tuple #[.agg #[.int .i64 (fr : Int), .int .i64 (fa : Int)], .bool bb, .int .i64 0]), (170, .agg #[.int .i64 (fr : Int), .int .i64 (fa : Int)]), (171, .bool bb), (172, .int .i64 0), (13, .pointer (some ⟨W4.heap.size, 0, none⟩)), (6, .bool bb), (14, .int .i64 0)]) [1, 3, 0, 2, 4, 5, 11, 6, 7, 8, 9, 10, 12, 13] (by show (List.range 14).Perm [1, 3, 0, 2, 4, 5, 11, 6, 7, 8, 9, 10, 12, 13]; decide)) (by show ([163, 164, 165, 166, 167, 168, 169, 162, 170, 171, 172, 13, 6, 14] : List Nat).Nodup; decide) a).symm, HZ, HS7⟩
        · clear hHeld
          obtain ⟨W4, hw⟩ : ∃ V, V = W3.alloc (.cells #[.int .i64 0, .int .i64 0] 25) := ⟨_, rfl⟩
          refine sV 13 (.pointer (some ⟨W3.heap.size, 0, none⟩)) W4 rfl rfl (by rw [hw]; kernel_rfl) ?_
          have hb : Below W3.heap.size W3 W4 := by rw [hw]; exact below_alloc _ _
          have HS4 : Hid (Below wr.heap.size wr W4) := hide (HS3.out.trans (hb.mono HS3.out.size))
          replace HB := hide (own_keep HB.out fun k e => hb.block k (HB.out.lt k e).2)
          replace HC := hide ((hb.block _ (lt_of_block HC.out)).trans HC.out)
          have HF : Hid (W4.heap[W3.heap.size]? = some (.cells #[.int .i64 0, .int .i64 0] 25 (0, 0))) := hide (by rw [hw]; exact heap_alloc_new _ _)
          clear hw hb
          refine hK.out _ _ (HS4.out) (fun hHeld => ?_)
          clear hK K
          refine wpAnyH_ready (rs := [5]) (by kernel_rfl) (by simp) ?_
          refine AllReadyH.cons rfl (fun K hK => ?_) AllReadyH.nil
          clear hHeld
          obtain ⟨vD, W5, hrun, hown, hgrow, hbB, aD, cD, hvD⟩ := run_srv HB.out (Srv.one (x := ⟨ek, eo, en, el, ej, eb, ei, ec, es, er, ew, ex, et⟩) (t := .slice q et.length cq) HC.out) (HTx.out W4 HS4.out) (by first | omega | (simp only [List.length_singleton]; omega)) (by first | omega | (simp only [List.length_singleton]; omega)) HS4.out.size
          have HS5 : Hid (Below wr.heap.size wr W5) := hide (HS4.out.trans hbB)
          have HRun := hide hrun
          have HD := hide hown
          replace HF := hide ((hgrow.block _ (lt_of_block HF.out) (fun e => by obtain ⟨c, hc⟩ := own_type HB.out _ e.symm; rw [HF.out] at hc; injection hc with hc; injection hc with _ hc; exact absurd hc (by decide))).trans HF.out)
          clear hrun hown hgrow hbB hvD
          refine sA 168 (.tmp 165) (.tmp 167) 22 rfl rfl rfl (by simp (disch := first | decide | omega | (simp only [pe_size]; omega)) only [List.getElem_toArray, List.getElem_cons_succ, List.getElem_cons_zero, List.map_toArray, List.map_cons, List.map_nil, execOp, pe_ne, pe_same, h0, h3]) (by simp (disch := first | decide | omega | (simp only [pe_size]; omega)) only [List.getElem_toArray, List.getElem_cons_succ, List.getElem_cons_zero, List.map_toArray, List.map_cons, List.map_nil, execOp, pe_ne, pe_same, h0, h3]) HRun.out ?_
          clear HRun
          refine hK.out _ _ (HS5.out) (fun hHeld => ?_)
          clear hK K
          refine wpAnyH_ready (rs := [6]) (by kernel_rfl) (by simp) ?_
          refine AllReadyH.cons rfl (fun K hK => ?_) AllReadyH.nil
          clear hHeld
          refine sC 169 (.tuple #[.agg #[.int .i64 (fr : Int), .int .i64 (fa : Int)], .bool bb, .int .i64 0]) rfl rfl (by simp (disch := first | decide | omega | (simp only [pe_size]; omega)) only [List.getElem_toArray, List.getElem_cons_succ, List.getElem_cons_zero, List.map_toArray, List.map_cons, List.map_nil, execOp, pe_ne, pe_same, h0, h3, resolve]; kernel_rfl) (HA2.out _ _ (HFin.out _ _ HD.out HS5.out)) ?_
          rintro W6 hb
          have HS6 : Hid (Below wr.heap.size wr W6) := hide (HS5.out.trans (hb.mono HS5.out.size))
          replace HD := hide (own_keep HD.out fun k e => hb.block k (HD.out.lt k e).2)
          replace HF := hide ((hb.block _ (lt_of_block HF.out)).trans HF.out)
          clear hb
          refine hK.out _ _ (HS6.out) (fun hHeld => ?_)
          clear hK K
          refine wU 7 162 (.tuple #[.agg #[.int .i64 (fr : Int), .int .i64 (fa : Int)], .bool bb, .int .i64 0]) (hQ := fun _ _ _ h => by cases h.1) (y := fun w1 hSw => by simp (disch := first | decide | omega | (simp only [pe_size]; omega)) only [List.getElem_toArray, List.getElem_cons_succ, List.getElem_cons_zero, List.map_toArray, List.map_cons, List.map_nil, execOp, pe_ne, pe_same, h0, h3]; kernel_rfl) (s := hHeld) (h := ?_)
          refine wU 8 170 (.agg #[.int .i64 (fr : Int), .int .i64 (fa : Int)]) (hQ := fun _ _ _ h => by cases h.1) (y := fun w1 hSw => by simp (disch := first | decide | omega | (simp only [pe_size]; omega)) only [List.getElem_toArray, List.getElem_cons_succ, List.getElem_cons_zero, List.map_toArray, List.map_cons, List.map_nil, execOp, pe_ne, pe_same, h0, h3]; kernel_rfl) (s := hHeld) (h := ?_)
          refine wU 9 171 (.bool bb) (hQ := fun _ _ _ h => by cases h.1) (y := fun w1 hSw => by simp (disch := first | decide | omega | (simp only [pe_size]; omega)) only [List.getElem_toArray, List.getElem_cons_succ, List.getElem_cons_zero, List.map_toArray, List.map_cons, List.map_nil, execOp, pe_ne, pe_same, h0, h3]; kernel_rfl) (s := hHeld) (h := ?_)
          refine wU 10 172 (.int .i64 0) (hQ := fun _ _ _ h => by cases h.1) (y := fun w1 hSw => by simp (disch := first | decide | omega | (simp only [pe_size]; omega)) only [List.getElem_toArray, List.getElem_cons_succ, List.getElem_cons_zero, List.map_toArray, List.map_cons, List.map_nil, execOp, pe_ne, pe_same, h0, h3]; kernel_rfl) (s := hHeld) (h := ?_)
          clear hHeld
          obtain ⟨f0, f1, fz⟩ := two_of HF.out
          have fz0 := fz 0
          have fz1 := fz 1
          clear fz
          obtain ⟨W7, hw⟩ : ∃ V, V = (W6.setCell ⟨W3.heap.size, 0, none⟩ (.int .i64 (fr : Int))).setCell ⟨W3.heap.size, 1, none⟩ (.int .i64 (fa : Int)) := ⟨_, rfl⟩
          have HS7 : Hid (Below wr.heap.size wr W7) := hide (by rw [hw]; exact (HS6.out.setCell (p := ⟨W3.heap.size, 0, none⟩) HS3.out.size _).setCell (p := ⟨W3.heap.size, 1, none⟩) HS3.out.size _)
          have HZ : Hid (W7.heap[W3.heap.size]? = some (.cells #[.int .i64 (fr : Int), .int .i64 (fa : Int)] 25 (0, 0))) := hide (by rw [hw]; exact hset2 _ _ HF.out)
          refine one_store W7 (i := 12) (by kernel_rfl) rfl rfl rfl (by rw [hw]; exact st1 rfl (by simp (disch := first | decide | omega | (simp only [pe_size]; omega)) only [List.getElem_toArray, List.getElem_cons_succ, List.getElem_cons_zero, List.map_toArray, List.map_cons, List.map_nil, execOp, pe_ne, pe_same, h0, h3]) (by simp (disch := first | decide | omega | (simp only [pe_size]; omega)) only [List.getElem_toArray, List.getElem_cons_succ, List.getElem_cons_zero, List.map_toArray, List.map_cons, List.map_nil, execOp, pe_ne, pe_same, h0, h3]) f0 f1 fz0 fz1) (HS7.out) (fun hHeld => ?_)
          clear hw f0 f1 fz0 fz1
          refine wU 13 6 (.bool bb) (hQ := fun _ _ _ h => by cases h.1) (y := fun w1 hSw => by simp (disch := first | decide | omega | (simp only [pe_size]; omega)) only [List.getElem_toArray, List.getElem_cons_succ, List.getElem_cons_zero, List.map_toArray, List.map_cons, List.map_nil, execOp, pe_ne, pe_same, h0, h3]; kernel_rfl) (s := hHeld) (h := ?_)
          refine wU 14 14 (.int .i64 0) (hQ := fun _ _ _ h => by cases h.1) (y := fun w1 hSw => by simp (disch := first | decide | omega | (simp only [pe_size]; omega)) only [List.getElem_toArray, List.getElem_cons_succ, List.getElem_cons_zero, List.map_toArray, List.map_cons, List.map_nil, execOp, pe_ne, pe_same, h0, h3]; kernel_rfl) (s := hHeld) (h := ?_)
          refine wpAnyH_done (by kernel_rfl) ?_ _
          exact ⟨rfl, _, _, _, _, _, (putAll_perm (perm_at (L := [(163, .slice (some ⟨W0.heap.size, 0, none⟩) 0 0), (164, .slice p l.length cap), (165, vB), (166, .agg #[.int .i64 ek, .int .i64 eo, .int .i64 en, .int .i64 el, .int .i64 ej, .int .i64 eb, .int .i64 ei, .int .i64 ec, .int .i64 es, .int .i64 er, .int .u64 ew, .string ex, .slice q et.length cq]), (167, .slice (some ⟨W2.heap.size, 0, none⟩) 1 1), (168, vD), (169, .tuple #[.agg #[.int .i64 (fr : Int), .int .i64 (fa : Int)], .bool bb, .int .i64 0]), (162, .tuple #[.agg #[.int .i64 (fr : Int), .int .i64 (fa : Int)], .bool bb, .int .i64 0]), (170, .agg #[.int .i64 (fr : Int), .int .i64 (fa : Int)]), (171, .bool bb), (172, .int .i64 0), (13, .pointer (some ⟨W3.heap.size, 0, none⟩)), (6, .bool bb), (14, .int .i64 0)]) [1, 3, 0, 2, 4, 11, 5, 6, 7, 8, 9, 10, 12, 13] (by show (List.range 14).Perm [1, 3, 0, 2, 4, 11, 5, 6, 7, 8, 9, 10, 12, 13]; decide)) (by show ([163, 164, 165, 166, 167, 168, 169, 162, 170, 171, 172, 13, 6, 14] : List Nat).Nodup; decide) a).symm, HZ, HS7⟩
      · clear hHeld
        obtain ⟨W3, hw⟩ : ∃ V, V = W2.alloc (.cells #[.int .i64 0, .int .i64 0] 25) := ⟨_, rfl⟩
        refine sV 13 (.pointer (some ⟨W2.heap.size, 0, none⟩)) W3 rfl rfl (by rw [hw]; kernel_rfl) ?_
        have hb : Below W2.heap.size W2 W3 := by rw [hw]; exact below_alloc _ _
        have HS3 : Hid (Below wr.heap.size wr W3) := hide (HS2.out.trans (hb.mono HS2.out.size))
        replace HB := hide (own_keep HB.out fun k e => hb.block k (HB.out.lt k e).2)
        have HF : Hid (W3.heap[W2.heap.size]? = some (.cells #[.int .i64 0, .int .i64 0] 25 (0, 0))) := hide (by rw [hw]; exact heap_alloc_new _ _)
        clear hw hb
        refine hK.out _ _ (HS3.out) (fun hHeld => ?_)
        clear hK K
        refine wpAnyH_ready (rs := [4]) (by kernel_rfl) (by simp) ?_
        refine AllReadyH.cons rfl (fun K hK => ?_) AllReadyH.nil
        clear hHeld
        obtain ⟨W4, hw⟩ : ∃ V, V = W3.alloc (.cells #[.int .i64 ek, .int .i64 eo, .int .i64 en, .int .i64 el, .int .i64 ej, .int .i64 eb, .int .i64 ei, .int .i64 ec, .int .i64 es, .int .i64 er, .int .u64 ew, .string ex, .slice q et.length cq] 43) := ⟨_, rfl⟩
        refine sV 167 (.slice (some ⟨W3.heap.size, 0, none⟩) 1 1) W4 rfl rfl (by rw [hw]; exact bs1 rfl (by simp (disch := first | decide | omega | (simp only [pe_size]; omega)) only [List.getElem_toArray, List.getElem_cons_succ, List.getElem_cons_zero, List.map_toArray, List.map_cons, List.map_nil, execOp, pe_ne, pe_same, h0, h3]) _) ?_
        have hb : Below W3.heap.size W3 W4 := by rw [hw]; exact below_alloc _ _
        have HS4 : Hid (Below wr.heap.size wr W4) := hide (HS3.out.trans (hb.mono HS3.out.size))
        replace HB := hide (own_keep HB.out fun k e => hb.block k (HB.out.lt k e).2)
        replace HF := hide ((hb.block _ (lt_of_block HF.out)).trans HF.out)
        have HC : Hid (W4.heap[W3.heap.size]? = some (.cells #[.int .i64 ek, .int .i64 eo, .int .i64 en, .int .i64 el, .int .i64 ej, .int .i64 eb, .int .i64 ei, .int .i64 ec, .int .i64 es, .int .i64 er, .int .u64 ew, .string ex, .slice q et.length cq] 43 (0, 0))) := hide (by rw [hw]; exact heap_alloc_new _ _)
        clear hw hb
        refine hK.out _ _ (HS4.out) (fun hHeld => ?_)
        clear hK K
        refine wpAnyH_ready (rs := [5]) (by kernel_rfl) (by simp) ?_
        refine AllReadyH.cons rfl (fun K hK => ?_) AllReadyH.nil
        clear hHeld
        obtain ⟨vD, W5, hrun, hown, hgrow, hbB, aD, cD, hvD⟩ := run_srv HB.out (Srv.one (x := ⟨ek, eo, en, el, ej, eb, ei, ec, es, er, ew, ex, et⟩) (t := .slice q et.length cq) HC.out) (HTx.out W4 HS4.out) (by first | omega | (simp only [List.length_singleton]; omega)) (by first | omega | (simp only [List.length_singleton]; omega)) HS4.out.size
        have HS5 : Hid (Below wr.heap.size wr W5) := hide (HS4.out.trans hbB)
        have HRun := hide hrun
        have HD := hide hown
        replace HF := hide ((hgrow.block _ (lt_of_block HF.out) (fun e => by obtain ⟨c, hc⟩ := own_type HB.out _ e.symm; rw [HF.out] at hc; injection hc with hc; injection hc with _ hc; exact absurd hc (by decide))).trans HF.out)
        clear hrun hown hgrow hbB hvD
        refine sA 168 (.tmp 165) (.tmp 167) 22 rfl rfl rfl (by simp (disch := first | decide | omega | (simp only [pe_size]; omega)) only [List.getElem_toArray, List.getElem_cons_succ, List.getElem_cons_zero, List.map_toArray, List.map_cons, List.map_nil, execOp, pe_ne, pe_same, h0, h3]) (by simp (disch := first | decide | omega | (simp only [pe_size]; omega)) only [List.getElem_toArray, List.getElem_cons_succ, List.getElem_cons_zero, List.map_toArray, List.map_cons, List.map_nil, execOp, pe_ne, pe_same, h0, h3]) HRun.out ?_
        clear HRun
        refine hK.out _ _ (HS5.out) (fun hHeld => ?_)
        clear hK K
        refine wpAnyH_ready (rs := [6]) (by kernel_rfl) (by simp) ?_
        refine AllReadyH.cons rfl (fun K hK => ?_) AllReadyH.nil
        clear hHeld
        refine sC 169 (.tuple #[.agg #[.int .i64 (fr : Int), .int .i64 (fa : Int)], .bool bb, .int .i64 0]) rfl rfl (by simp (disch := first | decide | omega | (simp only [pe_size]; omega)) only [List.getElem_toArray, List.getElem_cons_succ, List.getElem_cons_zero, List.map_toArray, List.map_cons, List.map_nil, execOp, pe_ne, pe_same, h0, h3, resolve]; kernel_rfl) (HA2.out _ _ (HFin.out _ _ HD.out HS5.out)) ?_
        rintro W6 hb
        have HS6 : Hid (Below wr.heap.size wr W6) := hide (HS5.out.trans (hb.mono HS5.out.size))
        replace HD := hide (own_keep HD.out fun k e => hb.block k (HD.out.lt k e).2)
        replace HF := hide ((hb.block _ (lt_of_block HF.out)).trans HF.out)
        clear hb
        refine hK.out _ _ (HS6.out) (fun hHeld => ?_)
        clear hK K
        refine wU 7 162 (.tuple #[.agg #[.int .i64 (fr : Int), .int .i64 (fa : Int)], .bool bb, .int .i64 0]) (hQ := fun _ _ _ h => by cases h.1) (y := fun w1 hSw => by simp (disch := first | decide | omega | (simp only [pe_size]; omega)) only [List.getElem_toArray, List.getElem_cons_succ, List.getElem_cons_zero, List.map_toArray, List.map_cons, List.map_nil, execOp, pe_ne, pe_same, h0, h3]; kernel_rfl) (s := hHeld) (h := ?_)
        refine wU 8 170 (.agg #[.int .i64 (fr : Int), .int .i64 (fa : Int)]) (hQ := fun _ _ _ h => by cases h.1) (y := fun w1 hSw => by simp (disch := first | decide | omega | (simp only [pe_size]; omega)) only [List.getElem_toArray, List.getElem_cons_succ, List.getElem_cons_zero, List.map_toArray, List.map_cons, List.map_nil, execOp, pe_ne, pe_same, h0, h3]; kernel_rfl) (s := hHeld) (h := ?_)
        refine wU 9 171 (.bool bb) (hQ := fun _ _ _ h => by cases h.1) (y := fun w1 hSw => by simp (disch := first | decide | omega | (simp only [pe_size]; omega)) only [List.getElem_toArray, List.getElem_cons_succ, List.getElem_cons_zero, List.map_toArray, List.map_cons, List.map_nil, execOp, pe_ne, pe_same, h0, h3]; kernel_rfl) (s := hHeld) (h := ?_)
        refine wU 10 172 (.int .i64 0) (hQ := fun _ _ _ h => by cases h.1) (y := fun w1 hSw => by simp (disch := first | decide | omega | (simp only [pe_size]; omega)) only [List.getElem_toArray, List.getElem_cons_succ, List.getElem_cons_zero, List.map_toArray, List.map_cons, List.map_nil, execOp, pe_ne, pe_same, h0, h3]; kernel_rfl) (s := hHeld) (h := ?_)
        clear hHeld
        obtain ⟨f0, f1, fz⟩ := two_of HF.out
        have fz0 := fz 0
        have fz1 := fz 1
        clear fz
        obtain ⟨W7, hw⟩ : ∃ V, V = (W6.setCell ⟨W2.heap.size, 0, none⟩ (.int .i64 (fr : Int))).setCell ⟨W2.heap.size, 1, none⟩ (.int .i64 (fa : Int)) := ⟨_, rfl⟩
        have HS7 : Hid (Below wr.heap.size wr W7) := hide (by rw [hw]; exact (HS6.out.setCell (p := ⟨W2.heap.size, 0, none⟩) HS2.out.size _).setCell (p := ⟨W2.heap.size, 1, none⟩) HS2.out.size _)
        have HZ : Hid (W7.heap[W2.heap.size]? = some (.cells #[.int .i64 (fr : Int), .int .i64 (fa : Int)] 25 (0, 0))) := hide (by rw [hw]; exact hset2 _ _ HF.out)
        refine one_store W7 (i := 12) (by kernel_rfl) rfl rfl rfl (by rw [hw]; exact st1 rfl (by simp (disch := first | decide | omega | (simp only [pe_size]; omega)) only [List.getElem_toArray, List.getElem_cons_succ, List.getElem_cons_zero, List.map_toArray, List.map_cons, List.map_nil, execOp, pe_ne, pe_same, h0, h3]) (by simp (disch := first | decide | omega | (simp only [pe_size]; omega)) only [List.getElem_toArray, List.getElem_cons_succ, List.getElem_cons_zero, List.map_toArray, List.map_cons, List.map_nil, execOp, pe_ne, pe_same, h0, h3]) f0 f1 fz0 fz1) (HS7.out) (fun hHeld => ?_)
        clear hw f0 f1 fz0 fz1
        refine wU 13 6 (.bool bb) (hQ := fun _ _ _ h => by cases h.1) (y := fun w1 hSw => by simp (disch := first | decide | omega | (simp only [pe_size]; omega)) only [List.getElem_toArray, List.getElem_cons_succ, List.getElem_cons_zero, List.map_toArray, List.map_cons, List.map_nil, execOp, pe_ne, pe_same, h0, h3]; kernel_rfl) (s := hHeld) (h := ?_)
        refine wU 14 14 (.int .i64 0) (hQ := fun _ _ _ h => by cases h.1) (y := fun w1 hSw => by simp (disch := first | decide | omega | (simp only [pe_size]; omega)) only [List.getElem_toArray, List.getElem_cons_succ, List.getElem_cons_zero, List.map_toArray, List.map_cons, List.map_nil, execOp, pe_ne, pe_same, h0, h3]; kernel_rfl) (s := hHeld) (h := ?_)
        refine wpAnyH_done (by kernel_rfl) ?_ _
        exact ⟨rfl, _, _, _, _, _, (putAll_perm (perm_at (L := [(163, .slice (some ⟨W0.heap.size, 0, none⟩) 0 0), (164, .slice p l.length cap), (165, vB), (166, .agg #[.int .i64 ek, .int .i64 eo, .int .i64 en, .int .i64 el, .int .i64 ej, .int .i64 eb, .int .i64 ei, .int .i64 ec, .int .i64 es, .int .i64 er, .int .u64 ew, .string ex, .slice q et.length cq]), (167, .slice (some ⟨W3.heap.size, 0, none⟩) 1 1), (168, vD), (169, .tuple #[.agg #[.int .i64 (fr : Int), .int .i64 (fa : Int)], .bool bb, .int .i64 0]), (162, .tuple #[.agg #[.int .i64 (fr : Int), .int .i64 (fa : Int)], .bool bb, .int .i64 0]), (170, .agg #[.int .i64 (fr : Int), .int .i64 (fa : Int)]), (171, .bool bb), (172, .int .i64 0), (13, .pointer (some ⟨W2.heap.size, 0, none⟩)), (6, .bool bb), (14, .int .i64 0)]) [1, 3, 0, 2, 11, 4, 5, 6, 7, 8, 9, 10, 12, 13] (by show (List.range 14).Perm [1, 3, 0, 2, 11, 4, 5, 6, 7, 8, 9, 10, 12, 13]; decide)) (by show ([163, 164, 165, 166, 167, 168, 169, 162, 170, 171, 172, 13, 6, 14] : List Nat).Nodup; decide) a).symm, HZ, HS7⟩
    · clear hHeld
      obtain ⟨W2, hw⟩ : ∃ V, V = W1.alloc (.cells #[.int .i64 ek, .int .i64 eo, .int .i64 en, .int .i64 el, .int .i64 ej, .int .i64 eb, .int .i64 ei, .int .i64 ec, .int .i64 es, .int .i64 er, .int .u64 ew, .string ex, .slice q et.length cq] 43) := ⟨_, rfl⟩
      refine sV 167 (.slice (some ⟨W1.heap.size, 0, none⟩) 1 1) W2 rfl rfl (by rw [hw]; exact bs1 rfl (by simp (disch := first | decide | omega | (simp only [pe_size]; omega)) only [List.getElem_toArray, List.getElem_cons_succ, List.getElem_cons_zero, List.map_toArray, List.map_cons, List.map_nil, execOp, pe_ne, pe_same, h0, h3]) _) ?_
      have hb : Below W1.heap.size W1 W2 := by rw [hw]; exact below_alloc _ _
      have HS2 : Hid (Below wr.heap.size wr W2) := hide (HS1.out.trans (hb.mono HS1.out.size))
      have HAC : Hid (W1.heap.size ≠ W0.heap.size) := hide (by have h1 : W0.heap.size < W1.heap.size := (HA.out.lt _ rfl).2; omega)
      replace HA := hide (own_keep HA.out fun k e => hb.block k (HA.out.lt k e).2)
      have HC : Hid (W2.heap[W1.heap.size]? = some (.cells #[.int .i64 ek, .int .i64 eo, .int .i64 en, .int .i64 el, .int .i64 ej, .int .i64 eb, .int .i64 ei, .int .i64 ec, .int .i64 es, .int .i64 er, .int .u64 ew, .string ex, .slice q et.length cq] 43 (0, 0))) := hide (by rw [hw]; exact heap_alloc_new _ _)
      clear hw hb
      refine hK.out _ _ (HS2.out) (fun hHeld => ?_)
      clear hK K
      refine wpAnyH_ready (rs := [2, 11]) (by kernel_rfl) (by simp) ?_
      refine AllReadyH.cons rfl (fun K hK => ?_) (AllReadyH.cons rfl (fun K hK => ?_) AllReadyH.nil)
      · clear hHeld
        obtain ⟨vB, W3, hrun, hown, hgrow, hbB, aB, cB, hvB⟩ := run_srv HA.out (HSrc1.out W2 HS2.out) (HT1.out W2 HS2.out) (by first | omega | (simp only [List.length_singleton]; omega)) (by first | omega | (simp only [List.length_singleton]; omega)) HS2.out.size
        have HS3 : Hid (Below wr.heap.size wr W3) := hide (HS2.out.trans hbB)
        have HRun := hide hrun
        have HB := hide hown
        replace HC := hide ((hgrow.block _ (lt_of_block HC.out) (fun e => HAC.out (Option.some.inj e))).trans HC.out)
        clear hrun hown hgrow hbB hvB
        refine sA 165 (.tmp 163) (.tmp 164) 22 rfl rfl rfl (by simp (disch := first | decide | omega | (simp only [pe_size]; omega)) only [List.getElem_toArray, List.getElem_cons_succ, List.getElem_cons_zero, List.map_toArray, List.map_cons, List.map_nil, execOp, pe_ne, pe_same, h0, h3]) (by simp (disch := first | decide | omega | (simp only [pe_size]; omega)) only [List.getElem_toArray, List.getElem_cons_succ, List.getElem_cons_zero, List.map_toArray, List.map_cons, List.map_nil, execOp, pe_ne, pe_same, h0, h3]) HRun.out ?_
        clear HRun
        refine hK.out _ _ (HS3.out) (fun hHeld => ?_)
        clear hK K
        refine wpAnyH_ready (rs := [5, 11]) (by kernel_rfl) (by simp) ?_
        refine AllReadyH.cons rfl (fun K hK => ?_) (AllReadyH.cons rfl (fun K hK => ?_) AllReadyH.nil)
        · clear hHeld
          obtain ⟨vD, W4, hrun, hown, hgrow, hbB, aD, cD, hvD⟩ := run_srv HB.out (Srv.one (x := ⟨ek, eo, en, el, ej, eb, ei, ec, es, er, ew, ex, et⟩) (t := .slice q et.length cq) HC.out) (HTx.out W3 HS3.out) (by first | omega | (simp only [List.length_singleton]; omega)) (by first | omega | (simp only [List.length_singleton]; omega)) HS3.out.size
          have HS4 : Hid (Below wr.heap.size wr W4) := hide (HS3.out.trans hbB)
          have HRun := hide hrun
          have HD := hide hown
          clear hrun hown hgrow hbB hvD
          refine sA 168 (.tmp 165) (.tmp 167) 22 rfl rfl rfl (by simp (disch := first | decide | omega | (simp only [pe_size]; omega)) only [List.getElem_toArray, List.getElem_cons_succ, List.getElem_cons_zero, List.map_toArray, List.map_cons, List.map_nil, execOp, pe_ne, pe_same, h0, h3]) (by simp (disch := first | decide | omega | (simp only [pe_size]; omega)) only [List.getElem_toArray, List.getElem_cons_succ, List.getElem_cons_zero, List.map_toArray, List.map_cons, List.map_nil, execOp, pe_ne, pe_same, h0, h3]) HRun.out ?_
          clear HRun
          refine hK.out _ _ (HS4.out) (fun hHeld => ?_)
          clear hK K
          refine wpAnyH_ready (rs := [6, 11]) (by kernel_rfl) (by simp) ?_
          refine AllReadyH.cons rfl (fun K hK => ?_) (AllReadyH.cons rfl (fun K hK => ?_) AllReadyH.nil)
          · clear hHeld
            refine sC 169 (.tuple #[.agg #[.int .i64 (fr : Int), .int .i64 (fa : Int)], .bool bb, .int .i64 0]) rfl rfl (by simp (disch := first | decide | omega | (simp only [pe_size]; omega)) only [List.getElem_toArray, List.getElem_cons_succ, List.getElem_cons_zero, List.map_toArray, List.map_cons, List.map_nil, execOp, pe_ne, pe_same, h0, h3, resolve]; kernel_rfl) (HA2.out _ _ (HFin.out _ _ HD.out HS4.out)) ?_
            rintro W5 hb
            have HS5 : Hid (Below wr.heap.size wr W5) := hide (HS4.out.trans (hb.mono HS4.out.size))
            replace HD := hide (own_keep HD.out fun k e => hb.block k (HD.out.lt k e).2)
            clear hb
            refine hK.out _ _ (HS5.out) (fun hHeld => ?_)
            clear hK K
            refine wU 7 162 (.tuple #[.agg #[.int .i64 (fr : Int), .int .i64 (fa : Int)], .bool bb, .int .i64 0]) (hQ := fun _ _ _ h => by cases h.1) (y := fun w1 hSw => by simp (disch := first | decide | omega | (simp only [pe_size]; omega)) only [List.getElem_toArray, List.getElem_cons_succ, List.getElem_cons_zero, List.map_toArray, List.map_cons, List.map_nil, execOp, pe_ne, pe_same, h0, h3]; kernel_rfl) (s := hHeld) (h := ?_)
            refine wU 8 170 (.agg #[.int .i64 (fr : Int), .int .i64 (fa : Int)]) (hQ := fun _ _ _ h => by cases h.1) (y := fun w1 hSw => by simp (disch := first | decide | omega | (simp only [pe_size]; omega)) only [List.getElem_toArray, List.getElem_cons_succ, List.getElem_cons_zero, List.map_toArray, List.map_cons, List.map_nil, execOp, pe_ne, pe_same, h0, h3]; kernel_rfl) (s := hHeld) (h := ?_)
            refine wU 9 171 (.bool bb) (hQ := fun _ _ _ h => by cases h.1) (y := fun w1 hSw => by simp (disch := first | decide | omega | (simp only [pe_size]; omega)) only [List.getElem_toArray, List.getElem_cons_succ, List.getElem_cons_zero, List.map_toArray, List.map_cons, List.map_nil, execOp, pe_ne, pe_same, h0, h3]; kernel_rfl) (s := hHeld) (h := ?_)
            refine wU 10 172 (.int .i64 0) (hQ := fun _ _ _ h => by cases h.1) (y := fun w1 hSw => by simp (disch := first | decide | omega | (simp only [pe_size]; omega)) only [List.getElem_toArray, List.getElem_cons_succ, List.getElem_cons_zero, List.map_toArray, List.map_cons, List.map_nil, execOp, pe_ne, pe_same, h0, h3]; kernel_rfl) (s := hHeld) (h := ?_)
            refine wpAnyH_ready (rs := [11]) (by kernel_rfl) (by simp) ?_
            refine AllReadyH.cons rfl (fun K hK => ?_) AllReadyH.nil
            clear hHeld
            obtain ⟨W6, hw⟩ : ∃ V, V = W5.alloc (.cells #[.int .i64 0, .int .i64 0] 25) := ⟨_, rfl⟩
            refine sV 13 (.pointer (some ⟨W5.heap.size, 0, none⟩)) W6 rfl rfl (by rw [hw]; kernel_rfl) ?_
            have hb : Below W5.heap.size W5 W6 := by rw [hw]; exact below_alloc _ _
            have HS6 : Hid (Below wr.heap.size wr W6) := hide (HS5.out.trans (hb.mono HS5.out.size))
            have HF : Hid (W6.heap[W5.heap.size]? = some (.cells #[.int .i64 0, .int .i64 0] 25 (0, 0))) := hide (by rw [hw]; exact heap_alloc_new _ _)
            clear hw hb
            refine hK.out _ _ (HS6.out) (fun hHeld => ?_)
            clear hK K
            clear hHeld
            obtain ⟨f0, f1, fz⟩ := two_of HF.out
            have fz0 := fz 0
            have fz1 := fz 1
            clear fz
            obtain ⟨W7, hw⟩ : ∃ V, V = (W6.setCell ⟨W5.heap.size, 0, none⟩ (.int .i64 (fr : Int))).setCell ⟨W5.heap.size, 1, none⟩ (.int .i64 (fa : Int)) := ⟨_, rfl⟩
            have HS7 : Hid (Below wr.heap.size wr W7) := hide (by rw [hw]; exact (HS6.out.setCell (p := ⟨W5.heap.size, 0, none⟩) HS5.out.size _).setCell (p := ⟨W5.heap.size, 1, none⟩) HS5.out.size _)
            have HZ : Hid (W7.heap[W5.heap.size]? = some (.cells #[.int .i64 (fr : Int), .int .i64 (fa : Int)] 25 (0, 0))) := hide (by rw [hw]; exact hset2 _ _ HF.out)
            refine one_store W7 (i := 12) (by kernel_rfl) rfl rfl rfl (by rw [hw]; exact st1 rfl (by simp (disch := first | decide | omega | (simp only [pe_size]; omega)) only [List.getElem_toArray, List.getElem_cons_succ, List.getElem_cons_zero, List.map_toArray, List.map_cons, List.map_nil, execOp, pe_ne, pe_same, h0, h3]) (by simp (disch := first | decide | omega | (simp only [pe_size]; omega)) only [List.getElem_toArray, List.getElem_cons_succ, List.getElem_cons_zero, List.map_toArray, List.map_cons, List.map_nil, execOp, pe_ne, pe_same, h0, h3]) f0 f1 fz0 fz1) (HS7.out) (fun hHeld => ?_)
            clear hw f0 f1 fz0 fz1
            refine wU 13 6 (.bool bb) (hQ := fun _ _ _ h => by cases h.1) (y := fun w1 hSw => by simp (disch := first | decide | omega | (simp only [pe_size]; omega)) only [List.getElem_toArray, List.getElem_cons_succ, List.getElem_cons_zero, List.map_toArray, List.map_cons, List.map_nil, execOp, pe_ne, pe_same, h0, h3]; kernel_rfl) (s := hHeld) (h := ?_)
            refine wU 14 14 (.int .i64 0) (hQ := fun _ _ _ h => by cases h.1) (y := fun w1 hSw => by simp (disch := first | decide | omega | (simp only [pe_size]; omega)) only [List.getElem_toArray, List.getElem_cons_succ, List.getElem_cons_zero, List.map_toArray, List.map_cons, List.map_nil, execOp, pe_ne, pe_same, h0, h3]; kernel_rfl) (s := hHeld) (h := ?_)
            refine wpAnyH_done (by kernel_rfl) ?_ _
            exact ⟨rfl, _, _, _, _, _, (putAll_perm (perm_at (L := [(163, .slice (some ⟨W0.heap.size, 0, none⟩) 0 0), (164, .slice p l.length cap), (165, vB), (166, .agg #[.int .i64 ek, .int .i64 eo, .int .i64 en, .int .i64 el, .int .i64 ej, .int .i64 eb, .int .i64 ei, .int .i64 ec, .int .i64 es, .int .i64 er, .int .u64 ew, .string ex, .slice q et.length cq]), (167, .slice (some ⟨W1.heap.size, 0, none⟩) 1 1), (168, vD), (169, .tuple #[.agg #[.int .i64 (fr : Int), .int .i64 (fa : Int)], .bool bb, .int .i64 0]), (162, .tuple #[.agg #[.int .i64 (fr : Int), .int .i64 (fa : Int)], .bool bb, .int .i64 0]), (170, .agg #[.int .i64 (fr : Int), .int .i64 (fa : Int)]), (171, .bool bb), (172, .int .i64 0), (13, .pointer (some ⟨W5.heap.size, 0, none⟩)), (6, .bool bb), (14, .int .i64 0)]) [1, 3, 0, 4, 2, 5, 6, 7, 8, 9, 10, 11, 12, 13] (by show (List.range 14).Perm [1, 3, 0, 4, 2, 5, 6, 7, 8, 9, 10, 11, 12, 13]; decide)) (by show ([163, 164, 165, 166, 167, 168, 169, 162, 170, 171, 172, 13, 6, 14] : List Nat).Nodup; decide) a).symm, HZ, HS7⟩
          · clear hHeld
            obtain ⟨W5, hw⟩ : ∃ V, V = W4.alloc (.cells #[.int .i64 0, .int .i64 0] 25) := ⟨_, rfl⟩
            refine sV 13 (.pointer (some ⟨W4.heap.size, 0, none⟩)) W5 rfl rfl (by rw [hw]; kernel_rfl) ?_
            have hb : Below W4.heap.size W4 W5 := by rw [hw]; exact below_alloc _ _
            have HS5 : Hid (Below wr.heap.size wr W5) := hide (HS4.out.trans (hb.mono HS4.out.size))
            replace HD := hide (own_keep HD.out fun k e => hb.block k (HD.out.lt k e).2)
            have HF : Hid (W5.heap[W4.heap.size]? = some (.cells #[.int .i64 0, .int .i64 0] 25 (0, 0))) := hide (by rw [hw]; exact heap_alloc_new _ _)
            clear hw hb
            refine hK.out _ _ (HS5.out) (fun hHeld => ?_)
            clear hK K
            refine wpAnyH_ready (rs := [6]) (by kernel_rfl) (by simp) ?_
            refine AllReadyH.cons rfl (fun K hK => ?_) AllReadyH.nil
            clear hHeld
            refine sC 169 (.tuple #[.agg #[.int .i64 (fr : Int), .int .i64 (fa : Int)], .bool bb, .int .i64 0]) rfl rfl (by simp (disch := first | decide | omega | (simp only [pe_size]; omega)) only [List.getElem_toArray, List.getElem_cons_succ, List.getElem_cons_zero, List.map_toArray, List.map_cons, List.map_nil, execOp, pe_ne, pe_same, h0, h3, resolve]; kernel_rfl) (HA2.out _ _ (HFin.out _ _ HD.out HS5.out)) ?_
            rintro W6 hb
            have HS6 : Hid (Below wr.heap.size wr W6) := hide (HS5.out.trans (hb.mono HS5.out.size))
            replace HD := hide (own_keep HD.out fun k e => hb.block k (HD.out.lt k e).2)
            replace HF := hide ((hb.block _ (lt_of_block HF.out)).trans HF.out)
            clear hb
            refine hK.out _ _ (HS6.out) (fun hHeld => ?_)
            clear hK K
            refine wU 7 162 (.tuple #[.agg #[.int .i64 (fr : Int), .int .i64 (fa : Int)], .bool bb, .int .i64 0]) (hQ := fun _ _ _ h => by cases h.1) (y := fun w1 hSw => by simp (disch := first | decide | omega | (simp only [pe_size]; omega)) only [List.getElem_toArray, List.getElem_cons_succ, List.getElem_cons_zero, List.map_toArray, List.map_cons, List.map_nil, execOp, pe_ne, pe_same, h0, h3]; kernel_rfl) (s := hHeld) (h := ?_)
            refine wU 8 170 (.agg #[.int .i64 (fr : Int), .int .i64 (fa : Int)]) (hQ := fun _ _ _ h => by cases h.1) (y := fun w1 hSw => by simp (disch := first | decide | omega | (simp only [pe_size]; omega)) only [List.getElem_toArray, List.getElem_cons_succ, List.getElem_cons_zero, List.map_toArray, List.map_cons, List.map_nil, execOp, pe_ne, pe_same, h0, h3]; kernel_rfl) (s := hHeld) (h := ?_)
            refine wU 9 171 (.bool bb) (hQ := fun _ _ _ h => by cases h.1) (y := fun w1 hSw => by simp (disch := first | decide | omega | (simp only [pe_size]; omega)) only [List.getElem_toArray, List.getElem_cons_succ, List.getElem_cons_zero, List.map_toArray, List.map_cons, List.map_nil, execOp, pe_ne, pe_same, h0, h3]; kernel_rfl) (s := hHeld) (h := ?_)
            refine wU 10 172 (.int .i64 0) (hQ := fun _ _ _ h => by cases h.1) (y := fun w1 hSw => by simp (disch := first | decide | omega | (simp only [pe_size]; omega)) only [List.getElem_toArray, List.getElem_cons_succ, List.getElem_cons_zero, List.map_toArray, List.map_cons, List.map_nil, execOp, pe_ne, pe_same, h0, h3]; kernel_rfl) (s := hHeld) (h := ?_)
            clear hHeld
            obtain ⟨f0, f1, fz⟩ := two_of HF.out
            have fz0 := fz 0
            have fz1 := fz 1
            clear fz
            obtain ⟨W7, hw⟩ : ∃ V, V = (W6.setCell ⟨W4.heap.size, 0, none⟩ (.int .i64 (fr : Int))).setCell ⟨W4.heap.size, 1, none⟩ (.int .i64 (fa : Int)) := ⟨_, rfl⟩
            have HS7 : Hid (Below wr.heap.size wr W7) := hide (by rw [hw]; exact (HS6.out.setCell (p := ⟨W4.heap.size, 0, none⟩) HS4.out.size _).setCell (p := ⟨W4.heap.size, 1, none⟩) HS4.out.size _)
            have HZ : Hid (W7.heap[W4.heap.size]? = some (.cells #[.int .i64 (fr : Int), .int .i64 (fa : Int)] 25 (0, 0))) := hide (by rw [hw]; exact hset2 _ _ HF.out)
            refine one_store W7 (i := 12) (by kernel_rfl) rfl rfl rfl (by rw [hw]; exact st1 rfl (by simp (disch := first | decide | omega | (simp only [pe_size]; omega)) only [List.getElem_toArray, List.getElem_cons_succ, List.getElem_cons_zero, List.map_toArray, List.map_cons, List.map_nil, execOp, pe_ne, pe_same, h0, h3]) (by simp (disch := first | decide | omega | (simp only [pe_size]; omega)) only [List.getElem_toArray, List.getElem_cons_succ, List.getElem_cons_zero, List.map_toArray, List.map_cons, List.map_nil, execOp, pe_ne, pe_same, h0, h3]) f0 f1 fz0 fz1) (HS7.out) (fun hHeld => ?_)
            clear hw f0 f1 fz0 fz1
            refine wU 13 6 (.bool bb) (hQ := fun _ _ _ h => by cases h.1) (y := fun w1 hSw => by simp (disch := first | decide | omega | (simp only [pe_size]; omega)) only [List.getElem_toArray, List.getElem_cons_succ, List.getElem_cons_zero, List.map_toArray, List.map_cons, List.map_nil, execOp, pe_ne, pe_same, h0, h3]; kernel_rfl) (s := hHeld) (h := ?_)
            refine wU 14 14 (.int .i64 0) (hQ := fun _ _ _ h => by cases h.1) (y := fun w1 hSw => by simp (disch := first | decide | omega | (simp only [pe_size]; omega)) only [List.getElem_toArray, List.getElem_cons_succ, List.getElem_cons_zero, List.map_toArray, List.map_cons, List.map_nil, execOp, pe_ne, pe_same, h0, h3]; kernel_rfl) (s := hHeld) (h := ?_)
            refine wpAnyH_done (by kernel_rfl) ?_ _
            exact ⟨rfl, _, _, _, _, _, (putAll_perm (perm_at (L := [(163, .slice (some ⟨W0.heap.size, 0, none⟩) 0 0), (164, .slice p l.length cap), (165, vB), (166, .agg #[.int .i64 ek, .int .i64 eo, .int .i64 en, .int .i64 el, .int .i64 ej, .int .i64 eb, .int .i64 ei, .int .i64 ec, .int .i64 es, .int .i64 er, .int .u64 ew, .string ex, .slice q et.length cq]), (167, .slice (some ⟨W1.heap.size, 0, none⟩) 1 1), (168, vD), (169, .tuple #[.agg #[.int .i64 (fr : Int), .int .i64 (fa : Int)], .bool bb, .int .i64 0]), (162, .tuple #[.agg #[.int .i64 (fr : Int), .int .i64 (fa : Int)], .bool bb, .int .i64 0]), (170, .agg #[.int .i64 (fr : Int), .int .i64 (fa : Int)]), (171, .bool bb), (172, .int .i64 0), (13, .pointer (some ⟨W4.heap.size, 0, none⟩)), (6, .bool bb), (14, .int .i64 0)]) [1, 3, 0, 4, 2, 5, 11, 6, 7, 8, 9, 10, 12, 13] (by show (List.range 14).Perm [1, 3, 0, 4, 2, 5, 11, 6, 7, 8, 9, 10, 12, 13]; decide)) (by show ([163, 164, 165, 166, 167, 168, 169, 162, 170, 171, 172, 13, 6, 14] : List Nat).Nodup; decide) a).symm, HZ, HS7⟩
        · clear hHeld
          obtain ⟨W4, hw⟩ : ∃ V, V = W3.alloc (.cells #[.int .i64 0, .int .i64 0] 25) := ⟨_, rfl⟩
          refine sV 13 (.pointer (some ⟨W3.heap.size, 0, none⟩)) W4 rfl rfl (by rw [hw]; kernel_rfl) ?_
          have hb : Below W3.heap.size W3 W4 := by rw [hw]; exact below_alloc _ _
          have HS4 : Hid (Below wr.heap.size wr W4) := hide (HS3.out.trans (hb.mono HS3.out.size))
          replace HB := hide (own_keep HB.out fun k e => hb.block k (HB.out.lt k e).2)
          replace HC := hide ((hb.block _ (lt_of_block HC.out)).trans HC.out)
          have HF : Hid (W4.heap[W3.heap.size]? = some (.cells #[.int .i64 0, .int .i64 0] 25 (0, 0))) := hide (by rw [hw]; exact heap_alloc_new _ _)
          clear hw hb
          refine hK.out _ _ (HS4.out) (fun hHeld => ?_)
          clear hK K
          refine wpAnyH_ready (rs := [5]) (by kernel_rfl) (by simp) ?_
          refine AllReadyH.cons rfl (fun K hK => ?_) AllReadyH.nil
          clear hHeld
          obtain ⟨vD, W5, hrun, hown, hgrow, hbB, aD, cD, hvD⟩ := run_srv HB.out (Srv.one (x := ⟨ek, eo, en, el, ej, eb, ei, ec, es, er, ew, ex, et⟩) (t := .slice q et.length cq) HC.out) (HTx.out W4 HS4.out) (by first | omega | (simp only [List.length_singleton]; omega)) (by first | omega | (simp only [List.length_singleton]; omega)) HS4.out.size
          have HS5 : Hid (Below wr.heap.size wr W5) := hide (HS4.out.trans hbB)
          have HRun := hide hrun
          have HD := hide hown
          replace HF := hide ((hgrow.block _ (lt_of_block HF.out) (fun e => by obtain ⟨c, hc⟩ := own_type HB.out _ e.symm; rw [HF.out] at hc; injection hc with hc; injection hc with _ hc; exact absurd hc (by decide))).trans HF.out)
          clear hrun hown hgrow hbB hvD
          refine sA 168 (.tmp 165) (.tmp 167) 22 rfl rfl rfl (by simp (disch := first | decide | omega | (simp only [pe_size]; omega)) only [List.getElem_toArray, List.getElem_cons_succ, List.getElem_cons_zero, List.map_toArray, List.map_cons, List.map_nil, execOp, pe_ne, pe_same, h0, h3]) (by simp (disch := first | decide | omega | (simp only [pe_size]; omega)) only [List.getElem_toArray, List.getElem_cons_succ, List.getElem_cons_zero, List.map_toArray, List.map_cons, List.map_nil, execOp, pe_ne, pe_same, h0, h3]) HRun.out ?_
          clear HRun
          refine hK.out _ _ (HS5.out) (fun hHeld => ?_)
          clear hK K
          refine wpAnyH_ready (rs := [6]) (by kernel_rfl) (by simp) ?_
          refine AllReadyH.cons rfl (fun K hK => ?_) AllReadyH.nil
          clear hHeld
          refine sC 169 (.tuple #[.agg #[.int .i64 (fr : Int), .int .i64 (fa : Int)], .bool bb, .int .i64 0]) rfl rfl (by simp (disch := first | decide | omega | (simp only [pe_size]; omega)) only [List.getElem_toArray, List.getElem_cons_succ, List.getElem_cons_zero, List.map_toArray, List.map_cons, List.map_nil, execOp, pe_ne, pe_same, h0, h3, resolve]; kernel_rfl) (HA2.out _ _ (HFin.out _ _ HD.out HS5.out)) ?_
          rintro W6 hb
          have HS6 : Hid (Below wr.heap.size wr W6) := hide (HS5.out.trans (hb.mono HS5.out.size))
          replace HD := hide (own_keep HD.out fun k e => hb.block k (HD.out.lt k e).2)
          replace HF := hide ((hb.block _ (lt_of_block HF.out)).trans HF.out)
          clear hb
          refine hK.out _ _ (HS6.out) (fun hHeld => ?_)
          clear hK K
          refine wU 7 162 (.tuple #[.agg #[.int .i64 (fr : Int), .int .i64 (fa : Int)], .bool bb, .int .i64 0]) (hQ := fun _ _ _ h => by cases h.1) (y := fun w1 hSw => by simp (disch := first | decide | omega | (simp only [pe_size]; omega)) only [List.getElem_toArray, List.getElem_cons_succ, List.getElem_cons_zero, List.map_toArray, List.map_cons, List.map_nil, execOp, pe_ne, pe_same, h0, h3]; kernel_rfl) (s := hHeld) (h := ?_)
          refine wU 8 170 (.agg #[.int .i64 (fr : Int), .int .i64 (fa : Int)]) (hQ := fun _ _ _ h => by cases h.1) (y := fun w1 hSw => by simp (disch := first | decide | omega | (simp only [pe_size]; omega)) only [List.getElem_toArray, List.getElem_cons_succ, List.getElem_cons_zero, List.map_toArray, List.map_cons, List.map_nil, execOp, pe_ne, pe_same, h0, h3]; kernel_rfl) (s := hHeld) (h := ?_)
          refine wU 9 171 (.bool bb) (hQ := fun _ _ _ h => by cases h.1) (y := fun w1 hSw => by simp (disch := first | decide | omega | (simp only [pe_size]; omega)) only [List.getElem_toArray, List.getElem_cons_succ, List.getElem_cons_zero, List.map_toArray, List.map_cons, List.map_nil, execOp, pe_ne, pe_same, h0, h3]; kernel_rfl) (s := hHeld) (h := ?_)
          refine wU 10 172 (.int .i64 0) (hQ := fun _ _ _ h => by cases h.1) (y := fun w1 hSw => by simp (disch := first | decide | omega | (simp only [pe_size]; omega)) only [List.getElem_toArray, List.getElem_cons_succ, List.getElem_cons_zero, List.map_toArray, List.map_cons, List.map_nil, execOp, pe_ne, pe_same, h0, h3]; kernel_rfl) (s := hHeld) (h := ?_)
          clear hHeld
          obtain ⟨f0, f1, fz⟩ := two_of HF.out
          have fz0 := fz 0
          have fz1 := fz 1
          clear fz
          obtain ⟨W7, hw⟩ : ∃ V, V = (W6.setCell ⟨W3.heap.size, 0, none⟩ (.int .i64 (fr : Int))).setCell ⟨W3.heap.size, 1, none⟩ (.int .i64 (fa : Int)) := ⟨_, rfl⟩
          have HS7 : Hid (Below wr.heap.size wr W7) := hide (by rw [hw]; exact (HS6.out.setCell (p := ⟨W3.heap.size, 0, none⟩) HS3.out.size _).setCell (p := ⟨W3.heap.size, 1, none⟩) HS3.out.size _)
          have HZ : Hid (W7.heap[W3.heap.size]? = some (.cells #[.int .i64 (fr : Int), .int .i64 (fa : Int)] 25 (0, 0))) := hide (by rw [hw]; exact hset2 _ _ HF.out)
          refine one_store W7 (i := 12) (by kernel_rfl) rfl rfl rfl (by rw [hw]; exact st1 rfl (by simp (disch := first | decide | omega | (simp only [pe_size]; omega)) only [List.getElem_toArray, List.getElem_cons_succ, List.getElem_cons_zero, List.map_toArray, List.map_cons, List.map_nil, execOp, pe_ne, pe_same, h0, h3]) (by simp (disch := first | decide | omega | (simp only [pe_size]; omega)) only [List.getElem_toArray, List.getElem_cons_succ, List.getElem_cons_zero, List.map_toArray, List.map_cons, List.map_nil, execOp, pe_ne, pe_same, h0, h3]) f0 f1 fz0 fz1) (HS7.out) (fun hHeld => ?_)
          clear hw f0 f1 fz0 fz1
          refine wU 13 6 (.bool bb) (hQ := fun _ _ _ h => by cases h.1) (y := fun w1 hSw => by simp (disch := first | decide | omega | (simp only [pe_size]; omega)) only [List.getElem_toArray, List.getElem_cons_succ, List.getElem_cons_zero, List.map_toArray, List.map_cons, List.map_nil, execOp, pe_ne, pe_same, h0, h3]; kernel_rfl) (s := hHeld) (h := ?_)
          refine wU 14 14 (.int .i64 0) (hQ := fun _ _ _ h => by cases h.1) (y := fun w1 hSw => by simp (disch := first | decide | omega | (simp only [pe_size]; omega)) only [List.getElem_toArray, List.getElem_cons_succ, List.getElem_cons_zero, List.map_toArray, List.map_cons, List.map_nil, execOp, pe_ne, pe_same, h0, h3]; kernel_rfl) (s := hHeld) (h := ?_)
          refine wpAnyH_done (by kernel_rfl) ?_ _
          exact ⟨rfl, _, _, _, _, _, (putAll_perm (perm_at (L := [(163, .slice (some ⟨W0.heap.size, 0, none⟩) 0 0), (164, .slice p l.length cap), (165, vB), (166, .agg #[.int .i64 ek, .int .i64 eo, .int .i64 en, .int .i64 el, .int .i64 ej, .int .i64 eb, .int .i64 ei, .int .i64 ec, .int .i64 es, .int .i64 er, .int .u64 ew, .string ex, .slice q et.length cq]), (167, .slice (some ⟨W1.heap.size, 0, none⟩) 1 1), (168, vD), (169, .tuple #[.agg #[.int .i64 (fr : Int), .int .i64 (fa : Int)], .bool bb, .int .i64 0]), (162, .tuple #[.agg #[.int .i64 (fr : Int), .int .i64 (fa : Int)], .bool bb, .int .i64 0]), (170, .agg #[.int .i64 (fr : Int), .int .i64 (fa : Int)]), (171, .bool bb), (172, .int .i64 0), (13, .pointer (some ⟨W3.heap.size, 0, none⟩)), (6, .bool bb), (14, .int .i64 0)]) [1, 3, 0, 4, 2, 11, 5, 6, 7, 8, 9, 10, 12, 13] (by show (List.range 14).Perm [1, 3, 0, 4, 2, 11, 5, 6, 7, 8, 9, 10, 12, 13]; decide)) (by show ([163, 164, 165, 166, 167, 168, 169, 162, 170, 171, 172, 13, 6, 14] : List Nat).Nodup; decide) a).symm, HZ, HS7⟩
      · clear hHeld
        obtain ⟨W3, hw⟩ : ∃ V, V = W2.alloc (.cells #[.int .i64 0, .int .i64 0] 25) := ⟨_, rfl⟩
        refine sV 13 (.pointer (some ⟨W2.heap.size, 0, none⟩)) W3 rfl rfl (by rw [hw]; kernel_rfl) ?_
        have hb : Below W2.heap.size W2 W3 := by rw [hw]; exact below_alloc _ _
        have HS3 : Hid (Below wr.heap.size wr W3) := hide (HS2.out.trans (hb.mono HS2.out.size))
        replace HA := hide (own_keep HA.out fun k e => hb.block k (HA.out.lt k e).2)
        replace HC := hide ((hb.block _ (lt_of_block HC.out)).trans HC.out)
        have HF : Hid (W3.heap[W2.heap.size]? = some (.cells #[.int .i64 0, .int .i64 0] 25 (0, 0))) := hide (by rw [hw]; exact heap_alloc_new _ _)
        clear hw hb
        refine hK.out _ _ (HS3.out) (fun hHeld => ?_)
        clear hK K
        refine wpAnyH_ready (rs := [2]) (by kernel_rfl) (by simp) ?_
        refine AllReadyH.cons rfl (fun K hK => ?_) AllReadyH.nil
        clear hHeld
        obtain ⟨vB, W4, hrun, hown, hgrow, hbB, aB, cB, hvB⟩ := run_srv HA.out (HSrc1.out W3 HS3.out) (HT1.out W3 HS3.out) (by first | omega | (simp only [List.length_singleton]; omega)) (by first | omega | (simp only [List.length_singleton]; omega)) HS3.out.size
        have HS4 : Hid (Below wr.heap.size wr W4) := hide (HS3.out.trans hbB)
        have HRun := hide hrun
        have HB := hide hown
        replace HC := hide ((hgrow.block _ (lt_of_block HC.out) (fun e => HAC.out (Option.some.inj e))).trans HC.out)
        replace HF := hide ((hgrow.block _ (lt_of_block HF.out) (fun e => by obtain ⟨c, hc⟩ := own_type HA.out _ e.symm; rw [HF.out] at hc; injection hc with hc; injection hc with _ hc; exact absurd hc (by decide))).trans HF.out)
        clear hrun hown hgrow hbB hvB
        refine sA 165 (.tmp 163) (.tmp 164) 22 rfl rfl rfl (by simp (disch := first | decide | omega | (simp only [pe_size]; omega)) only [List.getElem_toArray, List.getElem_cons_succ, List.getElem_cons_zero, List.map_toArray, List.map_cons, List.map_nil, execOp, pe_ne, pe_same, h0, h3]) (by simp (disch := first | decide | omega | (simp only [pe_size]; omega)) only [List.getElem_toArray, List.getElem_cons_succ, List.getElem_cons_zero, List.map_toArray, List.map_cons, List.map_nil, execOp, pe_ne, pe_same, h0, h3]) HRun.out ?_
        clear HRun
        refine hK.out _ _ (HS4.out) (fun hHeld => ?_)
        clear hK K
        refine wpAnyH_ready (rs := [5]) (by kernel_rfl) (by simp) ?_
        refine AllReadyH.cons rfl (fun K hK => ?_) AllReadyH.nil
        clear hHeld
        obtain ⟨vD, W5, hrun, hown, hgrow, hbB, aD, cD, hvD⟩ := run_srv HB.out (Srv.one (x := ⟨ek, eo, en, el, ej, eb, ei, ec, es, er, ew, ex, et⟩) (t := .slice q et.length cq) HC.out) (HTx.out W4 HS4.out) (by first | omega | (simp only [List.length_singleton]; omega)) (by first | omega | (simp only [List.length_singleton]; omega)) HS4.out.size
        have HS5 : Hid (Below wr.heap.size wr W5) := hide (HS4.out.trans hbB)
        have HRun := hide hrun
        have HD := hide hown
        replace HF := hide ((hgrow.block _ (lt_of_block HF.out) (fun e => by obtain ⟨c, hc⟩ := own_type HB.out _ e.symm; rw [HF.out] at hc; injection hc with hc; injection hc with _ hc; exact absurd hc (by decide))).trans HF.out)
        clear hrun hown hgrow hbB hvD
        refine sA 168 (.tmp 165) (.tmp 167) 22 rfl rfl rfl (by simp (disch := first | decide | omega | (simp only [pe_size]; omega)) only [List.getElem_toArray, List.getElem_cons_succ, List.getElem_cons_zero, List.map_toArray, List.map_cons, List.map_nil, execOp, pe_ne, pe_same, h0, h3]) (by simp (disch := first | decide | omega | (simp only [pe_size]; omega)) only [List.getElem_toArray, List.getElem_cons_succ, List.getElem_cons_zero, List.map_toArray, List.map_cons, List.map_nil, execOp, pe_ne, pe_same, h0, h3]) HRun.out ?_
        clear HRun
        refine hK.out _ _ (HS5.out) (fun hHeld => ?_)
        clear hK K
        refine wpAnyH_ready (rs := [6]) (by kernel_rfl) (by simp) ?_
        refine AllReadyH.cons rfl (fun K hK => ?_) AllReadyH.nil
        clear hHeld
        refine sC 169 (.tuple #[.agg #[.int .i64 (fr : Int), .int .i64 (fa : Int)], .bool bb, .int .i64 0]) rfl rfl (by simp (disch := first | decide | omega | (simp only [pe_size]; omega)) only [List.getElem_toArray, List.getElem_cons_succ, List.getElem_cons_zero, List.map_toArray, List.map_cons, List.map_nil, execOp, pe_ne, pe_same, h0, h3, resolve]; kernel_rfl) (HA2.out _ _ (HFin.out _ _ HD.out HS5.out)) ?_
        rintro W6 hb
        have HS6 : Hid (Below wr.heap.size wr W6) := hide (HS5.out.trans (hb.mono HS5.out.size))
        replace HD := hide (own_keep HD.out fun k e => hb.block k (HD.out.lt k e).2)
        replace HF := hide ((hb.block _ (lt_of_block HF.out)).trans HF.out)
        clear hb
        refine hK.out _ _ (HS6.out) (fun hHeld => ?_)
        clear hK K
        refine wU 7 162 (.tuple #[.agg #[.int .i64 (fr : Int), .int .i64 (fa : Int)], .bool bb, .int .i64 0]) (hQ := fun _ _ _ h => by cases h.1) (y := fun w1 hSw => by simp (disch := first | decide | omega | (simp only [pe_size]; omega)) only [List.getElem_toArray, List.getElem_cons_succ, List.getElem_cons_zero, List.map_toArray, List.map_cons, List.map_nil, execOp, pe_ne, pe_same, h0, h3]; kernel_rfl) (s := hHeld) (h := ?_)
        refine wU 8 170 (.agg #[.int .i64 (fr : Int), .int .i64 (fa : Int)]) (hQ := fun _ _ _ h => by cases h.1) (y := fun w1 hSw => by simp (disch := first | decide | omega | (simp only [pe_size]; omega)) only [List.getElem_toArray, List.getElem_cons_succ, List.getElem_cons_zero, List.map_toArray, List.map_cons, List.map_nil, execOp, pe_ne, pe_same, h0, h3]; kernel_rfl) (s := hHeld) (h := ?_)
        refine wU 9 171 (.bool bb) (hQ := fun _ _ _ h => by cases h.1) (y := fun w1 hSw => by simp (disch := first | decide | omega | (simp only [pe_size]; omega)) only [List.getElem_toArray, List.getElem_cons_succ, List.getElem_cons_zero, List.map_toArray, List.map_cons, List.map_nil, execOp, pe_ne, pe_same, h0, h3]; kernel_rfl) (s := hHeld) (h := ?_)
        refine wU 10 172 (.int .i64 0) (hQ := fun _ _ _ h => by cases h.1) (y := fun w1 hSw => by simp (disch := first | decide | omega | (simp only [pe_size]; omega)) only [List.getElem_toArray, List.getElem_cons_succ, List.getElem_cons_zero, List.map_toArray, List.map_cons, List.map_nil, execOp, pe_ne, pe_same, h0, h3]; kernel_rfl) (s := hHeld) (h := ?_)
        clear hHeld
        obtain ⟨f0, f1, fz⟩ := two_of HF.out
        have fz0 := fz 0
        have fz1 := fz 1
        clear fz
        obtain ⟨W7, hw⟩ : ∃ V, V = (W6.setCell ⟨W2.heap.size, 0, none⟩ (.int .i64 (fr : Int))).setCell ⟨W2.heap.size, 1, none⟩ (.int .i64 (fa : Int)) := ⟨_, rfl⟩
        have HS7 : Hid (Below wr.heap.size wr W7) := hide (by rw [hw]; exact (HS6.out.setCell (p := ⟨W2.heap.size, 0, none⟩) HS2.out.size _).setCell (p := ⟨W2.heap.size, 1, none⟩) HS2.out.size _)
        have HZ : Hid (W7.heap[W2.heap.size]? = some (.cells #[.int .i64 (fr : Int), .int .i64 (fa : Int)] 25 (0, 0))) := hide (by rw [hw]; exact hset2 _ _ HF.out)
        refine one_store W7 (i := 12) (by kernel_rfl) rfl rfl rfl (by rw [hw]; exact st1 rfl (by simp (disch := first | decide | omega | (simp only [pe_size]; omega)) only [List.getElem_toArray, List.getElem_cons_succ, List.getElem_cons_zero, List.map_toArray, List.map_cons, List.map_nil, execOp, pe_ne, pe_same, h0, h3]) (by simp (disch := first | decide | omega | (simp only [pe_size]; omega)) only [List.getElem_toArray, List.getElem_cons_succ, List.getElem_cons_zero, List.map_toArray, List.map_cons, List.map_nil, execOp, pe_ne, pe_same, h0, h3]) f0 f1 fz0 fz1) (HS7.out) (fun hHeld => ?_)
        clear hw f0 f1 fz0 fz1
        refine wU 13 6 (.bool bb) (hQ := fun _ _ _ h => by cases h.1) (y := fun w1 hSw => by simp (disch := first | decide | omega | (simp only [pe_size]; omega)) only [List.getElem_toArray, List.getElem_cons_succ, List.getElem_cons_zero, List.map_toArray, List.map_cons, List.map_nil, execOp, pe_ne, pe_same, h0, h3]; kernel_rfl) (s := hHeld) (h := ?_)
        refine wU 14 14 (.int .i64 0) (hQ := fun _ _ _ h => by cases h.1) (y := fun w1 hSw => by simp (disch := first | decide | omega | (simp only [pe_size]; omega)) only [List.getElem_toArray, List.getElem_cons_succ, List.getElem_cons_zero, List.map_toArray, List.map_cons, List.map_nil, execOp, pe_ne, pe_same, h0, h3]; kernel_rfl) (s := hHeld) (h := ?_)
        refine wpAnyH_done (by kernel_rfl) ?_ _
        exact ⟨rfl, _, _, _, _, _, (putAll_perm (perm_at (L := [(163, .slice (some ⟨W0.heap.size, 0, none⟩) 0 0), (164, .slice p l.length cap), (165, vB), (166, .agg #[.int .i64 ek, .int .i64 eo, .int .i64 en, .int .i64 el, .int .i64 ej, .int .i64 eb, .int .i64 ei, .int .i64 ec, .int .i64 es, .int .i64 er, .int .u64 ew, .string ex, .slice q et.length cq]), (167, .slice (some ⟨W1.heap.size, 0, none⟩) 1 1), (168, vD), (169, .tuple #[.agg #[.int .i64 (fr : Int), .int .i64 (fa : Int)], .bool bb, .int .i64 0]), (162, .tuple #[.agg #[.int .i64 (fr : Int), .int .i64 (fa : Int)], .bool bb, .int .i64 0]), (170, .agg #[.int .i64 (fr : Int), .int .i64 (fa : Int)]), (171, .bool bb), (172, .int .i64 0), (13, .pointer (some ⟨W2.heap.size, 0, none⟩)), (6, .bool bb), (14, .int .i64 0)]) [1, 3, 0, 4, 11, 2, 5, 6, 7, 8, 9, 10, 12, 13] (by show (List.range 14).Perm [1, 3, 0, 4, 11, 2, 5, 6, 7, 8, 9, 10, 12, 13]; decide)) (by show ([163, 164, 165, 166, 167, 168, 169, 162, 170, 171, 172, 13, 6, 14] : List Nat).Nodup; decide) a).symm, HZ, HS7⟩
    · clear hHeld
      obtain ⟨W2, hw⟩ : ∃ V, V = W1.alloc (.cells #[.int .i64 0, .int .i64 0] 25) := ⟨_, rfl⟩
      refine sV 13 (.pointer (some ⟨W1.heap.size, 0, none⟩)) W2 rfl rfl (by rw [hw]; kernel_rfl) ?_
      have hb : Below W1.heap.size W1 W2 := by rw [hw]; exact below_alloc _ _
      have HS2 : Hid (Below wr.heap.size wr W2) := hide (HS1.out.trans (hb.mono HS1.out.size))
      replace HA := hide (own_keep HA.out fun k e => hb.block k (HA.out.lt k e).2)
      have HF : Hid (W2.heap[W1.heap.size]? = some (.cells #[.int .i64 0, .int .i64 0] 25 (0, 0))) := hide (by rw [hw]; exact heap_alloc_new _ _)
      clear hw hb
      refine hK.out _ _ (HS2.out) (fun hHeld => ?_)
      clear hK K
      refine wpAnyH_ready (rs := [2, 4]) (by kernel_rfl) (by simp) ?_
      refine AllReadyH.cons rfl (fun K hK => ?_) (AllReadyH.cons rfl (fun K hK => ?_) AllReadyH.nil)
      · clear hHeld
        obtain ⟨vB, W3, hrun, hown, hgrow, hbB, aB, cB, hvB⟩ := run_srv HA.out (HSrc1.out W2 HS2.out) (HT1.out W2 HS2.out) (by first | omega | (simp only [List.length_singleton]; omega)) (by first | omega | (simp only [List.length_singleton]; omega)) HS2.out.size
        have HS3 : Hid (Below wr.heap.size wr W3) := hide (HS2.out.trans hbB)
        have HRun := hide hrun
        have HB := hide hown
        replace HF := hide ((hgrow.block _ (lt_of_block HF.out) (fun e => by obtain ⟨c, hc⟩ := own_type HA.out _ e.symm; rw [HF.out] at hc; injection hc with hc; injection hc with _ hc; exact absurd hc (by decide))).trans HF.out)
        clear hrun hown hgrow hbB hvB
        refine sA 165 (.tmp 163) (.tmp 164) 22 rfl rfl rfl (by simp (disch := first | decide | omega | (simp only [pe_size]; omega)) only [List.getElem_toArray, List.getElem_cons_succ, List.getElem_cons_zero, List.map_toArray, List.map_cons, List.map_nil, execOp, pe_ne, pe_same, h0, h3]) (by simp (disch := first | decide | omega | (simp only [pe_size]; omega)) only [List.getElem_toArray, List.getElem_cons_succ, List.getElem_cons_zero, List.map_toArray, List.map_cons, List.map_nil, execOp, pe_ne, pe_same, h0, h3]) HRun.out ?_
        clear HRun
        refine hK.out _ _ (HS3.out) (fun hHeld => ?_)
        clear hK K
        refine wpAnyH_ready (rs := [4]) (by kernel_rfl) (by simp) ?_
        refine AllReadyH.cons rfl (fun K hK => ?_) AllReadyH.nil
        clear hHeld
        obtain ⟨W4, hw⟩ : ∃ V, V = W3.alloc (.cells #[.int .i64 ek, .int .i64 eo, .int .i64 en, .int .i64 el, .int .i64 ej, .int .i64 eb, .int .i64 ei, .int .i64 ec, .int .i64 es, .int .i64 er, .int .u64 ew, .string ex, .slice q et.length cq] 43) := ⟨_, rfl⟩
        refine sV 167 (.slice (some ⟨W3.heap.size, 0, none⟩) 1 1) W4 rfl rfl (by rw [hw]; exact bs1 rfl (by simp (disch := first | decide | omega | (simp only [pe_size]; omega)) only [List.getElem_toArray, List.getElem_cons_succ, List.getElem_cons_zero, List.map_toArray, List.map_cons, List.map_nil, execOp, pe_ne, pe_same, h0, h3]) _) ?_
        have hb : Below W3.heap.size W3 W4 := by rw [hw]; exact below_alloc _ _
        have HS4 : Hid (Below wr.heap.size wr W4) := hide (HS3.out.trans (hb.mono HS3.out.size))
        replace HB := hide (own_keep HB.out fun k e => hb.block k (HB.out.lt k e).2)
        replace HF := hide ((hb.block _ (lt_of_block HF.out)).trans HF.out)
        have HC : Hid (W4.heap[W3.heap.size]? = some (.cells #[.int .i64 ek, .int .i64 eo, .int .i64 en, .int .i64 el, .int .i64 ej, .int .i64 eb, .int .i64 ei, .int .i64 ec, .int .i64 es, .int .i64 er, .int .u64 ew, .string ex, .slice q et.length cq] 43 (0, 0))) := hide (by rw [hw]; exact heap_alloc_new _ _)
        clear hw hb
        refine hK.out _ _ (HS4.out) (fun hHeld => ?_)
        clear hK K
        refine wpAnyH_ready (rs := [5]) (by kernel_rfl) (by simp) ?_
        refine AllReadyH.cons rfl (fun K hK => ?_) AllReadyH.nil
        clear hHeld
        obtain ⟨vD, W5, hrun, hown, hgrow, hbB, aD, cD, hvD⟩ := run_srv HB.out (Srv.one (x := ⟨ek, eo, en, el, ej, eb, ei, ec, es, er, ew, ex, et⟩) (t := .slice q et.length cq) HC.out) (HTx.out W4 HS4.out) (by first | omega | (simp only [List.length_singleton]; omega)) (by first | omega | (simp only [List.length_singleton]; omega)) HS4.out.size
        have HS5 : Hid (Below wr.heap.size wr W5) := hide (HS4.out.trans hbB)
        have HRun := hide hrun
        have HD := hide hown
        replace HF := hide ((hgrow.block _ (lt_of_block HF.out) (fun e => by obtain ⟨c, hc⟩ := own_type HB.out _ e.symm; rw [HF.out] at hc; injection hc with hc; injection hc with _ hc; exact absurd hc (by decide))).trans HF.out)
        clear hrun hown hgrow hbB hvD
        refine sA 168 (.tmp 165) (.tmp 167) 22 rfl rfl rfl (by simp (disch := first | decide | omega | (simp only [pe_size]; omega)) only [List.getElem_toArray, List.getElem_cons_succ, List.getElem_cons_zero, List.map_toArray, List.map_cons, List.map_nil, execOp, pe_ne, pe_same, h0, h3]) (by simp (disch := first | decide | omega | (simp only [pe_size]; omega)) only [List.getElem_toArray, List.getElem_cons_succ, List.getElem_cons_zero, List.map_toArray, List.map_cons, List.map_nil, execOp, pe_ne, pe_same, h0, h3]) HRun.out ?_
        clear HRun
        refine hK.out _ _ (HS5.out) (fun hHeld => ?_)
        clear hK K
        refine wpAnyH_ready (rs := [6]) (by kernel_rfl) (by simp) ?_
        refine AllReadyH.cons rfl (fun K hK => ?_) AllReadyH.nil
        clear hHeld
        refine sC 169 (.tuple #[.agg #[.int .i64 (fr : Int), .int .i64 (fa : Int)], .bool bb, .int .i64 0]) rfl rfl (by simp (disch := first | decide | omega | (simp only [pe_size]; omega)) only [List.getElem_toArray, List.getElem_cons_succ, List.getElem_cons_zero, List.map_toArray, List.map_cons, List.map_nil, execOp, pe_ne, pe_same, h0, h3, resolve]; kernel_rfl) (HA2.out _ _ (HFin.out _ _ HD.out HS5.out)) ?_
        rintro W6 hb
        have HS6 : Hid (Below wr.heap.size wr W6) := hide (HS5.out.trans (hb.mono HS5.out.size))
        replace HD := hide (own_keep HD.out fun k e => hb.block k (HD.out.lt k e).2)
        replace HF := hide ((hb.block _ (lt_of_block HF.out)).trans HF.out)
        clear hb
        refine hK.out _ _ (HS6.out) (fun hHeld => ?_)
        clear hK K
        refine wU 7 162 (.tuple #[.agg #[.int .i64 (fr : Int), .int .i64 (fa : Int)], .bool bb, .int .i64 0]) (hQ := fun _ _ _ h => by cases h.1) (y := fun w1 hSw => by simp (disch := first | decide | omega | (simp only [pe_size]; omega)) only [List.getElem_toArray, List.getElem_cons_succ, List.getElem_cons_zero, List.map_toArray, List.map_cons, List.map_nil, execOp, pe_ne, pe_same, h0, h3]; kernel_rfl) (s := hHeld) (h := ?_)
        refine wU 8 170 (.agg #[.int .i64 (fr : Int), .int .i64 (fa : Int)]) (hQ := fun _ _ _ h => by cases h.1) (y := fun w1 hSw => by simp (disch := first | decide | omega | (simp only [pe_size]; omega)) only [List.getElem_toArray, List.getElem_cons_succ, List.getElem_cons_zero, List.map_toArray, List.map_cons, List.map_nil, execOp, pe_ne, pe_same, h0, h3]; kernel_rfl) (s := hHeld) (h := ?_)
        refine wU 9 171 (.bool bb) (hQ := fun _ _ _ h => by cases h.1) (y := fun w1 hSw => by simp (disch := first | decide | omega | (simp only [pe_size]; omega)) only [List.getElem_toArray, List.getElem_cons_succ, List.getElem_cons_zero, List.map_toArray, List.map_cons, List.map_nil, execOp, pe_ne, pe_same, h0, h3]; kernel_rfl) (s := hHeld) (h := ?_)
        refine wU 10 172 (.int .i64 0) (hQ := fun _ _ _ h => by cases h.1) (y := fun w1 hSw => by simp (disch := first | decide | omega | (simp only [pe_size]; omega)) only [List.getElem_toArray, List.getElem_cons_succ, List.getElem_cons_zero, List.map_toArray, List.map_cons, List.map_nil, execOp, pe_ne, pe_same, h0, h3]; kernel_rfl) (s := hHeld) (h := ?_)
        clear hHeld
        obtain ⟨f0, f1, fz⟩ := two_of HF.out
        have fz0 := fz 0
        have fz1 := fz 1
        clear fz
        obtain ⟨W7, hw⟩ : ∃ V, V = (W6.setCell ⟨W1.heap.size, 0, none⟩ (.int .i64 (fr : Int))).setCell ⟨W1.heap.size, 1, none⟩ (.int .i64 (fa : Int)) := ⟨_, rfl⟩
        have HS7 : Hid (Below wr.heap.size wr W7) := hide (by rw [hw]; exact (HS6.out.setCell (p := ⟨W1.heap.size, 0, none⟩) HS1.out.size _).setCell (p := ⟨W1.heap.size, 1, none⟩) HS1.out.size _)
        have HZ : Hid (W7.heap[W1.heap.size]? = some (.cells #[.int .i64 (fr : Int), .int .i64 (fa : Int)] 25 (0, 0))) := hide (by rw [hw]; exact hset2 _ _ HF.out)
        refine one_store W7 (i := 12) (by kernel_rfl) rfl rfl rfl (by rw [hw]; exact st1 rfl (by simp (disch := first | decide | omega | (simp only [pe_size]; omega)) only [List.getElem_toArray, List.getElem_cons_succ, List.getElem_cons_zero, List.map_toArray, List.map_cons, List.map_nil, execOp, pe_ne, pe_same, h0, h3]) (by simp (disch := first | decide | omega | (simp only [pe_size]; omega)) only [List.getElem_toArray, List.getElem_cons_succ, List.getElem_cons_zero, List.map_toArray, List.map_cons, List.map_nil, execOp, pe_ne, pe_same, h0, h3]) f0 f1 fz0 fz1) (HS7.out) (fun hHeld => ?_)
        clear hw f0 f1 fz0 fz1
        refine wU 13 6 (.bool bb) (hQ := fun _ _ _ h => by cases h.1) (y := fun w1 hSw => by simp (disch := first | decide | omega | (simp only [pe_size]; omega)) only [List.getElem_toArray, List.getElem_cons_succ, List.getElem_cons_zero, List.map_toArray, List.map_cons, List.map_nil, execOp, pe_ne, pe_same, h0, h3]; kernel_rfl) (s := hHeld) (h := ?_)
        refine wU 14 14 (.int .i64 0) (hQ := fun _ _ _ h => by cases h.1) (y := fun w1 hSw => by simp (disch := first | decide | omega | (simp only [pe_size]; omega)) only [List.getElem_toArray, List.getElem_cons_succ, List.getElem_cons_zero, List.map_toArray, List.map_cons, List.map_nil, execOp, pe_ne, pe_same, h0, h3]; kernel_rfl) (s := hHeld) (h := ?_)
        refine wpAnyH_done (by kernel_rfl) ?_ _
        exact ⟨rfl, _, _, _, _, _, (putAll_perm (perm_at (L := [(163, .slice (some ⟨W0.heap.size, 0, none⟩) 0 0), (164, .slice p l.length cap), (165, vB), (166, .agg #[.int .i64 ek, .int .i64 eo, .int .i64 en, .int .i64 el, .int .i64 ej, .int .i64 eb, .int .i64 ei, .int .i64 ec, .int .i64 es, .int .i64 er, .int .u64 ew, .string ex, .slice q et.length cq]), (167, .slice (some ⟨W3.heap.size, 0, none⟩) 1 1), (168, vD), (169, .tuple #[.agg #[.int .i64 (fr : Int), .int .i64 (fa : Int)], .bool bb, .int .i64 0]), (162, .tuple #[.agg #[.int .i64 (fr : Int), .int .i64 (fa : Int)], .bool bb, .int .i64 0]), (170, .agg #[.int .i64 (fr : Int), .int .i64 (fa : Int)]), (171, .bool bb), (172, .int .i64 0), (13, .pointer (some ⟨W1.heap.size, 0, none⟩)), (6, .bool bb), (14, .int .i64 0)]) [1, 3, 0, 11, 2, 4, 5, 6, 7, 8, 9, 10, 12, 13] (by show (List.range 14).Perm [1, 3, 0, 11, 2, 4, 5, 6, 7, 8, 9, 10, 12, 13]; decide)) (by show ([163, 164, 165, 166, 167, 168, 169, 162, 170, 171, 172, 13, 6, 14] : List Nat).Nodup; decide) a).symm, HZ, HS7⟩
      · clear hHeld
        obtain ⟨W3, hw⟩ : ∃ V, V = W2.alloc (.cells #[.int .i64 ek, .int .i64 eo, .int .i64 en, .int .i64 el, .int .i64 ej, .int .i64 eb, .int .i64 ei, .int .i64 ec, .int .i64 es, .int .i64 er, .int .u64 ew, .string ex, .slice q et.length cq] 43) := ⟨_, rfl⟩
        refine sV 167 (.slice (some ⟨W2.heap.size, 0, none⟩) 1 1) W3 rfl rfl (by rw [hw]; exact bs1 rfl (by simp (disch := first | decide | omega | (simp only [pe_size]; omega)) only [List.getElem_toArray, List.getElem_cons_succ, List.getElem_cons_zero, List.map_toArray, List.map_cons, List.map_nil, execOp, pe_ne, pe_same, h0, h3]) _) ?_
        have hb : Below W2.heap.size W2 W3 := by rw [hw]; exact below_alloc _ _
        have HS3 : Hid (Below wr.heap.size wr W3) := hide (HS2.out.trans (hb.mono HS2.out.size))
        have HAC : Hid (W2.heap.size ≠ W0.heap.size) := hide (by have h1 : W0.heap.size < W2.heap.size := (HA.out.lt _ rfl).2; omega)
        replace HA := hide (own_keep HA.out fun k e => hb.block k (HA.out.lt k e).2)
        replace HF := hide ((hb.block _ (lt_of_block HF.out)).trans HF.out)
        have HC : Hid (W3.heap[W2.heap.size]? = some (.cells #[.int .i64 ek, .int .i64 eo, .int .i64 en, .int .i64 el, .int .i64 ej, .int .i64 eb, .int .i64 ei, .int .i64 ec, .int .i64 es, .int .i64 er, .int .u64 ew, .string ex, .slice q et.length cq] 43 (0, 0))) := hide (by rw [hw]; exact heap_alloc_new _ _)
        clear hw hb
        refine hK.out _ _ (HS3.out) (fun hHeld => ?_)
        clear hK K
        refine wpAnyH_ready (rs := [2]) (by kernel_rfl) (by simp) ?_
        refine AllReadyH.cons rfl (fun K hK => ?_) AllReadyH.nil
        clear hHeld
        obtain ⟨vB, W4, hrun, hown, hgrow, hbB, aB, cB, hvB⟩ := run_srv HA.out (HSrc1.out W3 HS3.out) (HT1.out W3 HS3.out) (by first | omega | (simp only [List.length_singleton]; omega)) (by first | omega | (simp only [List.length_singleton]; omega)) HS3.out.size
        have HS4 : Hid (Below wr.heap.size wr W4) := hide (HS3.out.trans hbB)
        have HRun := hide hrun
        have HB := hide hown
        replace HC := hide ((hgrow.block _ (lt_of_block HC.out) (fun e => HAC.out (Option.some.inj e))).trans HC.out)
        replace HF := hide ((hgrow.block _ (lt_of_block HF.out) (fun e => by obtain ⟨c, hc⟩ := own_type HA.out _ e.symm; rw [HF.out] at hc; injection hc with hc; injection hc with _ hc; exact absurd hc (by decide))).trans HF.out)
        clear hrun hown hgrow hbB hvB
        refine sA 165 (.tmp 163) (.tmp 164) 22 rfl rfl rfl (by simp (disch := first | decide | omega | (simp only [pe_size]; omega)) only [List.getElem_toArray, List.getElem_cons_succ, List.getElem_cons_zero, List.map_toArray, List.map_cons, List.map_nil, execOp, pe_ne, pe_same, h0, h3]) (by simp (disch := first | decide | omega | (simp only [pe_size]; omega)) only [List.getElem_toArray, List.getElem_cons_succ, List.getElem_cons_zero, List.map_toArray, List.map_cons, List.map_nil, execOp, pe_ne, pe_same, h0, h3]) HRun.out ?_
        clear HRun
        refine hK.out _ _ (HS4.out) (fun hHeld => ?_)
        clear hK K
        refine wpAnyH_ready (rs := [5]) (by kernel_rfl) (by simp) ?_
        refine AllReadyH.cons rfl (fun K hK => ?_) AllReadyH.nil
        clear hHeld
        obtain ⟨vD, W5, hrun, hown, hgrow, hbB, aD, cD, hvD⟩ := run_srv HB.out (Srv.one (x := ⟨ek, eo, en, el, ej, eb, ei, ec, es, er, ew, ex, et⟩) (t := .slice q et.length cq) HC.out) (HTx.out W4 HS4.out) (by first | omega | (simp only [List.length_singleton]; omega)) (by first | omega | (simp only [List.length_singleton]; omega)) HS4.out.size
        have HS5 : Hid (Below wr.heap.size wr W5) := hide (HS4.out.trans hbB)
        have HRun := hide hrun
        have HD := hide hown
        replace HF := hide ((hgrow.block _ (lt_of_block HF.out) (fun e => by obtain ⟨c, hc⟩ := own_type HB.out _ e.symm; rw [HF.out] at hc; injection hc with hc; injection hc with _ hc; exact absurd hc (by decide))).trans HF.out)
        clear hrun hown hgrow hbB hvD
        refine sA 168 (.tmp 165) (.tmp 167) 22 rfl rfl rfl (by simp (disch := first | decide | omega | (simp only [pe_size]; omega)) only [List.getElem_toArray, List.getElem_cons_succ, List.getElem_cons_zero, List.map_toArray, List.map_cons, List.map_nil, execOp, pe_ne, pe_same, h0, h3]) (by simp (disch := first | decide | omega | (simp only [pe_size]; omega)) only [List.getElem_toArray, List.getElem_cons_succ, List.getElem_cons_zero, List.map_toArray, List.map_cons, List.map_nil, execOp, pe_ne, pe_same, h0, h3]) HRun.out ?_
        clear HRun
        refine hK.out _ _ (HS5.out) (fun hHeld => ?_)
        clear hK K
        refine wpAnyH_ready (rs := [6]) (by kernel_rfl) (by simp) ?_
        refine AllReadyH.cons rfl (fun K hK => ?_) AllReadyH.nil
        clear hHeld
        refine sC 169 (.tuple #[.agg #[.int .i64 (fr : Int), .int .i64 (fa : Int)], .bool bb, .int .i64 0]) rfl rfl (by simp (disch := first | decide | omega | (simp only [pe_size]; omega)) only [List.getElem_toArray, List.getElem_cons_succ, List.getElem_cons_zero, List.map_toArray, List.map_cons, List.map_nil, execOp, pe_ne, pe_same, h0, h3, resolve]; kernel_rfl) (HA2.out _ _ (HFin.out _ _ HD.out HS5.out)) ?_
        rintro W6 hb
        have HS6 : Hid (Below wr.heap.size wr W6) := hide (HS5.out.trans (hb.mono HS5.out.size))
        replace HD := hide (own_keep HD.out fun k e => hb.block k (HD.out.lt k e).2)
        replace HF := hide ((hb.block _ (lt_of_block HF.out)).trans HF.out)
        clear hb
        refine hK.out _ _ (HS6.out) (fun hHeld => ?_)
        clear hK K
        refine wU 7 162 (.tuple #[.agg #[.int .i64 (fr : Int), .int .i64 (fa : Int)], .bool bb, .int .i64 0]) (hQ := fun _ _ _ h => by cases h.1) (y := fun w1 hSw => by simp (disch := first | decide | omega | (simp only [pe_size]; omega)) only [List.getElem_toArray, List.getElem_cons_succ, List.getElem_cons_zero, List.map_toArray, List.map_cons, List.map_nil, execOp, pe_ne, pe_same, h0, h3]; kernel_rfl) (s := hHeld) (h := ?_)
        refine wU 8 170 (.agg #[.int .i64 (fr : Int), .int .i64 (fa : Int)]) (hQ := fun _ _ _ h => by cases h.1) (y := fun w1 hSw => by simp (disch := first | decide | omega | (simp only [pe_size]; omega)) only [List.getElem_toArray, List.getElem_cons_succ, List.getElem_cons_zero, List.map_toArray, List.map_cons, List.map_nil, execOp, pe_ne, pe_same, h0, h3]; kernel_rfl) (s := hHeld) (h := ?_)
        refine wU 9 171 (.bool bb) (hQ := fun _ _ _ h => by cases h.1) (y := fun w1 hSw => by simp (disch := first | decide | omega | (simp only [pe_size]; omega)) only [List.getElem_toArray, List.getElem_cons_succ, List.getElem_cons_zero, List.map_toArray, List.map_cons, List.map_nil, execOp, pe_ne, pe_same, h0, h3]; kernel_rfl) (s := hHeld) (h := ?_)
        refine wU 10 172 (.int .i64 0) (hQ := fun _ _ _ h => by cases h.1) (y := fun w1 hSw => by simp (disch := first | decide | omega | (simp only [pe_size]; omega)) only [List.getElem_toArray, List.getElem_cons_succ, List.getElem_cons_zero, List.map_toArray, List.map_cons, List.map_nil, execOp, pe_ne, pe_same, h0, h3]; kernel_rfl) (s := hHeld) (h := ?_)
        clear hHeld
        obtain ⟨f0, f1, fz⟩ := two_of HF.out
        have fz0 := fz 0
        have fz1 := fz 1
        clear fz
        obtain ⟨W7, hw⟩ : ∃ V, V = (W6.setCell ⟨W1.heap.size, 0, none⟩ (.int .i64 (fr : Int))).setCell ⟨W1.heap.size, 1, none⟩ (.int .i64 (fa : Int)) := ⟨_, rfl⟩
        have HS7 : Hid (Below wr.heap.size wr W7) := hide (by rw [hw]; exact (HS6.out.setCell (p := ⟨W1.heap.size, 0, none⟩) HS1.out.size _).setCell (p := ⟨W1.heap.size, 1, none⟩) HS1.out.size _)
        have HZ : Hid (W7.heap[W1.heap.size]? = some (.cells #[.int .i64 (fr : Int), .int .i64 (fa : Int)] 25 (0, 0))) := hide (by rw [hw]; exact hset2 _ _ HF.out)
        refine one_store W7 (i := 12) (by kernel_rfl) rfl rfl rfl (by rw [hw]; exact st1 rfl (by simp (disch := first | decide | omega | (simp only [pe_size]; omega)) only [List.getElem_toArray, List.getElem_cons_succ, List.getElem_cons_zero, List.map_toArray, List.map_cons, List.map_nil, execOp, pe_ne, pe_same, h0, h3]) (by simp (disch := first | decide | omega | (simp only [pe_size]; omega)) only [List.getElem_toArray, List.getElem_cons_succ, List.getElem_cons_zero, List.map_toArray, List.map_cons, List.map_nil, execOp, pe_ne, pe_same, h0, h3]) f0 f1 fz0 fz1) (HS7.out) (fun hHeld => ?_)
        clear hw f0 f1 fz0 fz1
        refine wU 13 6 (.bool bb) (hQ := fun _ _ _ h => by cases h.1) (y := fun w1 hSw => by simp (disch := first | decide | omega | (simp only [pe_size]; omega)) only [List.getElem_toArray, List.getElem_cons_succ, List.getElem_cons_zero, List.map_toArray, List.map_cons, List.map_nil, execOp, pe_ne, pe_same, h0, h3]; kernel_rfl) (s := hHeld) (h := ?_)
        refine wU 14 14 (.int .i64 0) (hQ := fun _ _ _ h => by cases h.1) (y := fun w1 hSw => by simp (disch := first | decide | omega | (simp only [pe_size]; omega)) only [List.getElem_toArray, List.getElem_cons_succ, List.getElem_cons_zero, List.map_toArray, List.map_cons, List.map_nil, execOp, pe_ne, pe_same, h0, h3]; kernel_rfl) (s := hHeld) (h := ?_)
        refine wpAnyH_done (by kernel_rfl) ?_ _
        exact ⟨rfl, _, _, _, _, _, (putAll_perm (perm_at (L := [(163, .slice (some ⟨W0.heap.size, 0, none⟩) 0 0), (164, .slice p l.length cap), (165, vB), (166, .agg #[.int .i64 ek, .int .i64 eo, .int .i64 en, .int .i64 el, .int .i64 ej, .int .i64 eb, .int .i64 ei, .int .i64 ec, .int .i64 es, .int .i64 er, .int .u64 ew, .string ex, .slice q et.length cq]), (167, .slice (some ⟨W2.heap.size, 0, none⟩) 1 1), (168, vD), (169, .tuple #[.agg #[.int .i64 (fr : Int), .int .i64 (fa : Int)], .bool bb, .int .i64 0]), (162, .tuple #[.agg #[.int .i64 (fr : Int), .int .i64 (fa : Int)], .bool bb, .int .i64 0]), (170, .agg #[.int .i64 (fr : Int), .int .i64 (fa : Int)]), (171, .bool bb), (172, .int .i64 0), (13, .pointer (some ⟨W1.heap.size, 0, none⟩)), (6, .bool bb), (14, .int .i64 0)]) [1, 3, 0, 11, 4, 2, 5, 6, 7, 8, 9, 10, 12, 13] (by show (List.range 14).Perm [1, 3, 0, 11, 4, 2, 5, 6, 7, 8, 9, 10, 12, 13]; decide)) (by show ([163, 164, 165, 166, 167, 168, 169, 162, 170, 171, 172, 13, 6, 14] : List Nat).Nodup; decide) a).symm, HZ, HS7⟩
  · clear hHeld
    obtain ⟨W1, hw⟩ : ∃ V, V = W0.alloc (.cells #[.int .i64 ek, .int .i64 eo, .int .i64 en, .int .i64 el, .int .i64 ej, .int .i64 eb, .int .i64 ei, .int .i64 ec, .int .i64 es, .int .i64 er, .int .u64 ew, .string ex, .slice q et.length cq] 43) := ⟨_, rfl⟩
    refine sV 167 (.slice (some ⟨W0.heap.size, 0, none⟩) 1 1) W1 rfl rfl (by rw [hw]; exact bs1 rfl (by simp (disch := first | decide | omega | (simp only [pe_size]; omega)) only [List.getElem_toArray, List.getElem_cons_succ, List.getElem_cons_zero, List.map_toArray, List.map_cons, List.map_nil, execOp, pe_ne, pe_same, h0, h3]) _) ?_
    have hb : Below W0.heap.size W0 W1 := by rw [hw]; exact below_alloc _ _
    have HS1 : Hid (Below wr.heap.size wr W1) := hide (HS0.out.trans (hb.mono HS0.out.size))
    have HC : Hid (W1.heap[W0.heap.size]? = some (.cells #[.int .i64 ek, .int .i64 eo, .int .i64 en, .int .i64 el, .int .i64 ej, .int .i64 eb, .int .i64 ei, .int .i64 ec, .int .i64 es, .int .i64 er, .int .u64 ew, .string ex, .slice q et.length cq] 43 (0, 0))) := hide (by rw [hw]; exact heap_alloc_new _ _)
    clear hw hb
    refine hK.out _ _ (HS1.out) (fun hHeld => ?_)
    clear hK K
    refine wpAnyH_ready (rs := [0, 11]) (by kernel_rfl) (by simp) ?_
    refine AllReadyH.cons rfl (fun K hK => ?_) (AllReadyH.cons rfl (fun K hK => ?_) AllReadyH.nil)
    · clear hHeld
      obtain ⟨W2, hw⟩ : ∃ V, V = W1.alloc (.cells #[] 43) := ⟨_, rfl⟩
      refine sV 163 (.slice (some ⟨W1.heap.size, 0, none⟩) 0 0) W2 rfl rfl (by rw [hw]; kernel_rfl) ?_
      have hb : Below W1.heap.size W1 W2 := by rw [hw]; exact below_alloc _ _
      have HS2 : Hid (Below wr.heap.size wr W2) := hide (HS1.out.trans (hb.mono HS1.out.size))
      have HAC : Hid (W0.heap.size ≠ W1.heap.size) := hide (by have h1 : W0.heap.size < W1.heap.size := lt_of_block HC.out; omega)
      replace HC := hide ((hb.block _ (lt_of_block HC.out)).trans HC.out)
      have HA : Hid (W2.ownsRow wr.heap.size 43 13 (.slice (some ⟨W1.heap.size, 0, none⟩) 0 0) 0 []) := hide (by rw [hw]; exact World.ownsRow_made W1 #[] 0 HS1.out.size (by decide) rfl)
      clear hw hb
      refine hK.out _ _ (HS2.out) (fun hHeld => ?_)
      clear hK K
      refine wpAnyH_ready (rs := [2, 11]) (by kernel_rfl) (by simp) ?_
      refine AllReadyH.cons rfl (fun K hK => ?_) (AllReadyH.cons rfl (fun K hK => ?_) AllReadyH.nil)
      · clear hHeld
        obtain ⟨vB, W3, hrun, hown, hgrow, hbB, aB, cB, hvB⟩ := run_srv HA.out (HSrc1.out W2 HS2.out) (HT1.out W2 HS2.out) (by first | omega | (simp only [List.length_singleton]; omega)) (by first | omega | (simp only [List.length_singleton]; omega)) HS2.out.size
        have HS3 : Hid (Below wr.heap.size wr W3) := hide (HS2.out.trans hbB)
        have HRun := hide hrun
        have HB := hide hown
        replace HC := hide ((hgrow.block _ (lt_of_block HC.out) (fun e => HAC.out (Option.some.inj e))).trans HC.out)
        clear hrun hown hgrow hbB hvB
        refine sA 165 (.tmp 163) (.tmp 164) 22 rfl rfl rfl (by simp (disch := first | decide | omega | (simp only [pe_size]; omega)) only [List.getElem_toArray, List.getElem_cons_succ, List.getElem_cons_zero, List.map_toArray, List.map_cons, List.map_nil, execOp, pe_ne, pe_same, h0, h3]) (by simp (disch := first | decide | omega | (simp only [pe_size]; omega)) only [List.getElem_toArray, List.getElem_cons_succ, List.getElem_cons_zero, List.map_toArray, List.map_cons, List.map_nil, execOp, pe_ne, pe_same, h0, h3]) HRun.out ?_
        clear HRun
        refine hK.out _ _ (HS3.out) (fun hHeld => ?_)
        clear hK K
        refine wpAnyH_ready (rs := [5, 11]) (by kernel_rfl) (by simp) ?_
        refine AllReadyH.cons rfl (fun K hK => ?_) (AllReadyH.cons rfl (fun K hK => ?_) AllReadyH.nil)
        · clear hHeld
          obtain ⟨vD, W4, hrun, hown, hgrow, hbB, aD, cD, hvD⟩ := run_srv HB.out (Srv.one (x := ⟨ek, eo, en, el, ej, eb, ei, ec, es, er, ew, ex, et⟩) (t := .slice q et.length cq) HC.out) (HTx.out W3 HS3.out) (by first | omega | (simp only [List.length_singleton]; omega)) (by first | omega | (simp only [List.length_singleton]; omega)) HS3.out.size
          have HS4 : Hid (Below wr.heap.size wr W4) := hide (HS3.out.trans hbB)
          have HRun := hide hrun
          have HD := hide hown
          clear hrun hown hgrow hbB hvD
          refine sA 168 (.tmp 165) (.tmp 167) 22 rfl rfl rfl (by simp (disch := first | decide | omega | (simp only [pe_size]; omega)) only [List.getElem_toArray, List.getElem_cons_succ, List.getElem_cons_zero, List.map_toArray, List.map_cons, List.map_nil, execOp, pe_ne, pe_same, h0, h3]) (by simp (disch := first | decide | omega | (simp only [pe_size]; omega)) only [List.getElem_toArray, List.getElem_cons_succ, List.getElem_cons_zero, List.map_toArray, List.map_cons, List.map_nil, execOp, pe_ne, pe_same, h0, h3]) HRun.out ?_
          clear HRun
          refine hK.out _ _ (HS4.out) (fun hHeld => ?_)
          clear hK K
          refine wpAnyH_ready (rs := [6, 11]) (by kernel_rfl) (by simp) ?_
          refine AllReadyH.cons rfl (fun K hK => ?_) (AllReadyH.cons rfl (fun K hK => ?_) AllReadyH.nil)
          · clear hHeld
            refine sC 169 (.tuple #[.agg #[.int .i64 (fr : Int), .int .i64 (fa : Int)], .bool bb, .int .i64 0]) rfl rfl (by simp (disch := first | decide | omega | (simp only [pe_size]; omega)) only [List.getElem_toArray, List.getElem_cons_succ, List.getElem_cons_zero, List.map_toArray, List.map_cons, List.map_nil, execOp, pe_ne, pe_same, h0, h3, resolve]; kernel_rfl) (HA2.out _ _ (HFin.out _ _ HD.out HS4.out)) ?_
            rintro W5 hb
            have HS5 : Hid (Below wr.heap.size wr W5) := hide (HS4.out.trans (hb.mono HS4.out.size))
            replace HD := hide (own_keep HD.out fun k e => hb.block k (HD.out.lt k e).2)
            clear hb
            refine hK.out _ _ (HS5.out) (fun hHeld => ?_)
            clear hK K
            refine wU 7 162 (.tuple #[.agg #[.int .i64 (fr : Int), .int .i64 (fa : Int)], .bool bb, .int .i64 0]) (hQ := fun _ _ _ h => by cases h.1) (y := fun w1 hSw => by simp (disch := first | decide | omega | (simp only [pe_size]; omega)) only [List.getElem_toArray, List.getElem_cons_succ, List.getElem_cons_zero, List.map_toArray, List.map_cons, List.map_nil, execOp, pe_ne, pe_same, h0, h3]; kernel_rfl) (s := hHeld) (h := ?_)
            refine wU 8 170 (.agg #[.int .i64 (fr : Int), .int .i64 (fa : Int)]) (hQ := fun _ _ _ h => by cases h.1) (y := fun w1 hSw => by simp (disch := first | decide | omega | (simp only [pe_size]; omega)) only [List.getElem_toArray, List.getElem_cons_succ, List.getElem_cons_zero, List.map_toArray, List.map_cons, List.map_nil, execOp, pe_ne, pe_same, h0, h3]; kernel_rfl) (s := hHeld) (h := ?_)
            refine wU 9 171 (.bool bb) (hQ := fun _ _ _ h => by cases h.1) (y := fun w1 hSw => by simp (disch := first | decide | omega | (simp only [pe_size]; omega)) only [List.getElem_toArray, List.getElem_cons_succ, List.getElem_cons_zero, List.map_toArray, List.map_cons, List.map_nil, execOp, pe_ne, pe_same, h0, h3]; kernel_rfl) (s := hHeld) (h := ?_)
            refine wU 10 172 (.int .i64 0) (hQ := fun _ _ _ h => by cases h.1) (y := fun w1 hSw => by simp (disch := first | decide | omega | (simp only [pe_size]; omega)) only [List.getElem_toArray, List.getElem_cons_succ, List.getElem_cons_zero, List.map_toArray, List.map_cons, List.map_nil, execOp, pe_ne, pe_same, h0, h3]; kernel_rfl) (s := hHeld) (h := ?_)
            refine wpAnyH_ready (rs := [11]) (by kernel_rfl) (by simp) ?_
            refine AllReadyH.cons rfl (fun K hK => ?_) AllReadyH.nil
            clear hHeld
            obtain ⟨W6, hw⟩ : ∃ V, V = W5.alloc (.cells #[.int .i64 0, .int .i64 0] 25) := ⟨_, rfl⟩
            refine sV 13 (.pointer (some ⟨W5.heap.size, 0, none⟩)) W6 rfl rfl (by rw [hw]; kernel_rfl) ?_
            have hb : Below W5.heap.size W5 W6 := by rw [hw]; exact below_alloc _ _
            have HS6 : Hid (Below wr.heap.size wr W6) := hide (HS5.out.trans (hb.mono HS5.out.size))
            have HF : Hid (W6.heap[W5.heap.size]? = some (.cells #[.int .i64 0, .int .i64 0] 25 (0, 0))) := hide (by rw [hw]; exact heap_alloc_new _ _)
            clear hw hb
            refine hK.out _ _ (HS6.out) (fun hHeld => ?_)
            clear hK K
            clear hHeld
            obtain ⟨f0, f1, fz⟩ := two_of HF.out
            have fz0 := fz 0
            have fz1 := fz 1
            clear fz
            obtain ⟨W7, hw⟩ : ∃ V, V = (W6.setCell ⟨W5.heap.size, 0, none⟩ (.int .i64 (fr : Int))).setCell ⟨W5.heap.size, 1, none⟩ (.int .i64 (fa : Int)) := ⟨_, rfl⟩
            have HS7 : Hid (Below wr.heap.size wr W7) := hide (by rw [hw]; exact (HS6.out.setCell (p := ⟨W5.heap.size, 0, none⟩) HS5.out.size _).setCell (p := ⟨W5.heap.size, 1, none⟩) HS5.out.size _)
            have HZ : Hid (W7.heap[W5.heap.size]? = some (.cells #[.int .i64 (fr : Int), .int .i64 (fa : Int)] 25 (0, 0))) := hide (by rw [hw]; exact hset2 _ _ HF.out)
            refine one_store W7 (i := 12) (by kernel_rfl) rfl rfl rfl (by rw [hw]; exact st1 rfl (by simp (disch := first | decide | omega | (simp only [pe_size]; omega)) only [List.getElem_toArray, List.getElem_cons_succ, List.getElem_cons_zero, List.map_toArray, List.map_cons, List.map_nil, execOp, pe_ne, pe_same, h0, h3]) (by simp (disch := first | decide | omega | (simp only [pe_size]; omega)) only [List.getElem_toArray, List.getElem_cons_succ, List.getElem_cons_zero, List.map_toArray, List.map_cons, List.map_nil, execOp, pe_ne, pe_same, h0, h3]) f0 f1 fz0 fz1) (HS7.out) (fun hHeld => ?_)
            clear hw f0 f1 fz0 fz1
            refine wU 13 6 (.bool bb) (hQ := fun _ _ _ h => by cases h.1) (y := fun w1 hSw => by simp (disch := first | decide | omega | (simp only [pe_size]; omega)) only [List.getElem_toArray, List.getElem_cons_succ, List.getElem_cons_zero, List.map_toArray, List.map_cons, List.map_nil, execOp, pe_ne, pe_same, h0, h3]; kernel_rfl) (s := hHeld) (h := ?_)
            refine wU 14 14 (.int .i64 0) (hQ := fun _ _ _ h => by cases h.1) (y := fun w1 hSw => by simp (disch := first | decide | omega | (simp only [pe_size]; omega)) only [List.getElem_toArray, List.getElem_cons_succ, List.getElem_cons_zero, List.map_toArray, List.map_cons, List.map_nil, execOp, pe_ne, pe_same, h0, h3]; kernel_rfl) (s := hHeld) (h := ?_)
            refine wpAnyH_done (by kernel_rfl) ?_ _
            exact ⟨rfl, _, _, _, _, _, (putAll_perm (perm_at (L := [(163, .slice (some ⟨W1.heap.size, 0, none⟩) 0 0), (164, .slice p l.length cap), (165, vB), (166, .agg #[.int .i64 ek, .int .i64 eo, .int .i64 en, .int .i64 el, .int .i64 ej, .int .i64 eb, .int .i64 ei, .int .i64 ec, .int .i64 es, .int .i64 er, .int .u64 ew, .string ex, .slice q et.length cq]), (167, .slice (some ⟨W0.heap.size, 0, none⟩) 1 1), (168, vD), (169, .tuple #[.agg #[.int .i64 (fr : Int), .int .i64 (fa : Int)], .bool bb, .int .i64 0]), (162, .tuple #[.agg #[.int .i64 (fr : Int), .int .i64 (fa : Int)], .bool bb, .int .i64 0]), (170, .agg #[.int .i64 (fr : Int), .int .i64 (fa : Int)]), (171, .bool bb), (172, .int .i64 0), (13, .pointer (some ⟨W5.heap.size, 0, none⟩)), (6, .bool bb), (14, .int .i64 0)]) [1, 3, 4, 0, 2, 5, 6, 7, 8, 9, 10, 11, 12, 13] (by show (List.range 14).Perm [1, 3, 4, 0, 2, 5, 6, 7, 8, 9, 10, 11, 12, 13]; decide)) (by show ([163, 164, 165, 166, 167, 168, 169, 162, 170, 171, 172, 13, 6, 14] : List Nat).Nodup; decide) a).symm, HZ, HS7⟩
          · clear hHeld
            obtain ⟨W5, hw⟩ : ∃ V, V = W4.alloc (.cells #[.int .i64 0, .int .i64 0] 25) := ⟨_, rfl⟩
            refine sV 13 (.pointer (some ⟨W4.heap.size, 0, none⟩)) W5 rfl rfl (by rw [hw]; kernel_rfl) ?_
            have hb : Below W4.heap.size W4 W5 := by rw [hw]; exact below_alloc _ _
            have HS5 : Hid (Below wr.heap.size wr W5) := hide (HS4.out.trans (hb.mono HS4.out.size))
            replace HD := hide (own_keep HD.out fun k e => hb.block k (HD.out.lt k e).2)
            have HF : Hid (W5.heap[W4.heap.size]? = some (.cells #[.int .i64 0, .int .i64 0] 25 (0, 0))) := hide (by rw [hw]; exact heap_alloc_new _ _)
            clear hw hb
            refine hK.out _ _ (HS5.out) (fun hHeld => ?_)
            clear hK K
            refine wpAnyH_ready (rs := [6]) (by kernel_rfl) (by simp) ?_
            refine AllReadyH.cons rfl (fun K hK => ?_) AllReadyH.nil
            clear hHeld
            refine sC 169 (.tuple #[.agg #[.int .i64 (fr : Int), .int .i64 (fa : Int)], .bool bb, .int .i64 0]) rfl rfl (by simp (disch := first | decide | omega | (simp only [pe_size]; omega)) only [List.getElem_toArray, List.getElem_cons_succ, List.getElem_cons_zero, List.map_toArray, List.map_cons, List.map_nil, execOp, pe_ne, pe_same, h0, h3, resolve]; kernel_rfl) (HA2.out _ _ (HFin.out _ _ HD.out HS5.out)) ?_
            rintro W6 hb
            have HS6 : Hid (Below wr.heap.size wr W6) := hide (HS5.out.trans (hb.mono HS5.out.size))
            replace HD := hide (own_keep HD.out fun k e => hb.block k (HD.out.lt k e).2)
            replace HF := hide ((hb.block _ (lt_of_block HF.out)).trans HF.out)
            clear hb
            refine hK.out _ _ (HS6.out) (fun hHeld => ?_)
            clear hK K
            refine wU 7 162 (.tuple #[.agg #[.int .i64 (fr : Int), .int .i64 (fa : Int)], .bool bb, .int .i64 0]) (hQ := fun _ _ _ h => by cases h.1) (y := fun w1 hSw => by simp (disch := first | decide | omega | (simp only [pe_size]; omega)) only [List.getElem_toArray, List.getElem_cons_succ, List.getElem_cons_zero, List.map_toArray, List.map_cons, List.map_nil, execOp, pe_ne, pe_same, h0, h3]; kernel_rfl) (s := hHeld) (h := ?_)
            refine wU 8 170 (.agg #[.int .i64 (fr : Int), .int .i64 (fa : Int)]) (hQ := fun _ _ _ h => by cases h.1) (y := fun w1 hSw => by simp (disch := first | decide | omega | (simp only [pe_size]; omega)) only [List.getElem_toArray, List.getElem_cons_succ, List.getElem_cons_zero, List.map_toArray, List.map_cons, List.map_nil, execOp, pe_ne, pe_same, h0, h3]; kernel_rfl) (s := hHeld) (h := ?_)
            refine wU 9 171 (.bool bb) (hQ := fun _ _ _ h => by cases h.1) (y := fun w1 hSw => by simp (disch := first | decide | omega | (simp only [pe_size]; omega)) only [List.getElem_toArray, List.getElem_cons_succ, List.getElem_cons_zero, List.map_toArray, List.map_cons, List.map_nil, execOp, pe_ne, pe_same, h0, h3]; kernel_rfl) (s := hHeld) (h := ?_)
            refine wU 10 172 (.int .i64 0) (hQ := fun _ _ _ h => by cases h.1) (y := fun w1 hSw => by simp (disch := first | decide | omega | (simp only [pe_size]; omega)) only [List.getElem_toArray, List.getElem_cons_succ, List.getElem_cons_zero, List.map_toArray, List.map_cons, List.map_nil, execOp, pe_ne, pe_same, h0, h3]; kernel_rfl) (s := hHeld) (h := ?_)
            clear hHeld
            obtain ⟨f0, f1, fz⟩ := two_of HF.out
            have fz0 := fz 0
            have fz1 := fz 1
            clear fz
            obtain ⟨W7, hw⟩ : ∃ V, V = (W6.setCell ⟨W4.heap.size, 0, none⟩ (.int .i64 (fr : Int))).setCell ⟨W4.heap.size, 1, none⟩ (.int .i64 (fa : Int)) := ⟨_, rfl⟩
            have HS7 : Hid (Below wr.heap.size wr W7) := hide (by rw [hw]; exact (HS6.out.setCell (p := ⟨W4.heap.size, 0, none⟩) HS4.out.size _).setCell (p := ⟨W4.heap.size, 1, none⟩) HS4.out.size _)
            have HZ : Hid (W7.heap[W4.heap.size]? = some (.cells #[.int .i64 (fr : Int), .int .i64 (fa : Int)] 25 (0, 0))) := hide (by rw [hw]; exact hset2 _ _ HF.out)
            refine one_store W7 (i := 12) (by kernel_rfl) rfl rfl rfl (by rw [hw]; exact st1 rfl (by simp (disch := first | decide | omega | (simp only [pe_size]; omega)) only [List.getElem_toArray, List.getElem_cons_succ, List.getElem_cons_zero, List.map_toArray, List.map_cons, List.map_nil, execOp, pe_ne, pe_same, h0, h3]) (by simp (disch := first | decide | omega | (simp only [pe_size]; omega)) only [List.getElem_toArray, List.getElem_cons_succ, List.getElem_cons_zero, List.map_toArray, List.map_cons, List.map_nil, execOp, pe_ne, pe_same, h0, h3]) f0 f1 fz0 fz1) (HS7.out) (fun hHeld => ?_)
            clear hw f0 f1 fz0 fz1
            refine wU 13 6 (.bool bb) (hQ := fun _ _ _ h => by cases h.1) (y := fun w1 hSw => by simp (disch := first | decide | omega | (simp only [pe_size]; omega)) only [List.getElem_toArray, List.getElem_cons_succ, List.getElem_cons_zero, List.map_toArray, List.map_cons, List.map_nil, execOp, pe_ne, pe_same, h0, h3]; kernel_rfl) (s := hHeld) (h := ?_)
            refine wU 14 14 (.int .i64 0) (hQ := fun _ _ _ h => by cases h.1) (y := fun w1 hSw => by simp (disch := first | decide | omega | (simp only [pe_size]; omega)) only [List.getElem_toArray, List.getElem_cons_succ, List.getElem_cons_zero, List.map_toArray, List.map_cons, List.map_nil, execOp, pe_ne, pe_same, h0, h3]; kernel_rfl) (s := hHeld) (h := ?_)
            refine wpAnyH_done (by kernel_rfl) ?_ _
            exact ⟨rfl, _, _, _, _, _, (putAll_perm (perm_at (L := [(163, .slice (some ⟨W1.heap.size, 0, none⟩) 0 0), (164, .slice p l.length cap), (165, vB), (166, .agg #[.int .i64 ek, .int .i64 eo, .int .i64 en, .int .i64 el, .int .i64 ej, .int .i64 eb, .int .i64 ei, .int .i64 ec, .int .i64 es, .int .i64 er, .int .u64 ew, .string ex, .slice q et.length cq]), (167, .slice (some ⟨W0.heap.size, 0, none⟩) 1 1), (168, vD), (169, .tuple #[.agg #[.int .i64 (fr : Int), .int .i64 (fa : Int)], .bool bb, .int .i64 0]), (162, .tuple #[.agg #[.int .i64 (fr : Int), .int .i64 (fa : Int)], .bool bb, .int .i64 0]), (170, .agg #[.int .i64 (fr : Int), .int .i64 (fa : Int)]), (171, .bool bb), (172, .int .i64 0), (13, .pointer (some ⟨W4.heap.size, 0, none⟩)), (6, .bool bb), (14, .int .i64 0)]) [1, 3, 4, 0, 2, 5, 11, 6, 7, 8, 9, 10, 12, 13] (by show (List.range 14).Perm [1, 3, 4, 0, 2, 5, 11, 6, 7, 8, 9, 10, 12, 13]; decide)) (by show ([163, 164, 165, 166, 167, 168, 169, 162, 170, 171, 172, 13, 6, 14] : List Nat).Nodup; decide) a).symm, HZ, HS7⟩
        · clear hHeld
          obtain ⟨W4, hw⟩ : ∃ V, V = W3.alloc (.cells #[.int .i64 0, .int .i64 0] 25) := ⟨_, rfl⟩
          refine sV 13 (.pointer (some ⟨W3.heap.size, 0, none⟩)) W4 rfl rfl (by rw [hw]; kernel_rfl) ?_
          have hb : Below W3.heap.size W3 W4 := by rw [hw]; exact below_alloc _ _
          have HS4 : Hid (Below wr.heap.size wr W4) := hide (HS3.out.trans (hb.mono HS3.out.size))
          replace HB := hide (own_keep HB.out fun k e => hb.block k (HB.out.lt k e).2)
          replace HC := hide ((hb.block _ (lt_of_block HC.out)).trans HC.out)
          have HF : Hid (W4.heap[W3.heap.size]? = some (.cells #[.int .i64 0, .int .i64 0] 25 (0, 0))) := hide (by rw [hw]; exact heap_alloc_new _ _)
          clear hw hb
          refine hK.out _ _ (HS4.out) (fun hHeld => ?_)
          clear hK K
          refine wpAnyH_ready (rs := [5]) (by kernel_rfl) (by simp) ?_
          refine AllReadyH.cons rfl (fun K hK => ?_) AllReadyH.nil
          clear hHeld
          obtain ⟨vD, W5, hrun, hown, hgrow, hbB, aD, cD, hvD⟩ := run_srv HB.out (Srv.one (x := ⟨ek, eo, en, el, ej, eb, ei, ec, es, er, ew, ex, et⟩) (t := .slice q et.length cq) HC.out) (HTx.out W4 HS4.out) (by first | omega | (simp only [List.length_singleton]; omega)) (by first | omega | (simp only [List.length_singleton]; omega)) HS4.out.size
          have HS5 : Hid (Below wr.heap.size wr W5) := hide (HS4.out.trans hbB)
          have HRun := hide hrun
          have HD := hide hown
          replace HF := hide ((hgrow.block _ (lt_of_block HF.out) (fun e => by obtain ⟨c, hc⟩ := own_type HB.out _ e.symm; rw [HF.out] at hc; injection hc with hc; injection hc with _ hc; exact absurd hc (by decide))).trans HF.out)
          clear hrun hown hgrow hbB hvD
          refine sA 168 (.tmp 165) (.tmp 167) 22 rfl rfl rfl (by simp (disch := first | decide | omega | (simp only [pe_size]; omega)) only [List.getElem_toArray, List.getElem_cons_succ, List.getElem_cons_zero, List.map_toArray, List.map_cons, List.map_nil, execOp, pe_ne, pe_same, h0, h3]) (by simp (disch := first | decide | omega | (simp only [pe_size]; omega)) only [List.getElem_toArray, List.getElem_cons_succ, List.getElem_cons_zero, List.map_toArray, List.map_cons, List.map_nil, execOp, pe_ne, pe_same, h0, h3]) HRun.out ?_
          clear HRun
          refine hK.out _ _ (HS5.out) (fun hHeld => ?_)
          clear hK K
          refine wpAnyH_ready (rs := [6]) (by kernel_rfl) (by simp) ?_
          refine AllReadyH.cons rfl (fun K hK => ?_) AllReadyH.nil
          clear hHeld
          refine sC 169 (.tuple #[.agg #[.int .i64 (fr : Int), .int .i64 (fa : Int)], .bool bb, .int .i64 0]) rfl rfl (by simp (disch := first | decide | omega | (simp only [pe_size]; omega)) only [List.getElem_toArray, List.getElem_cons_succ, List.getElem_cons_zero, List.map_toArray, List.map_cons, List.map_nil, execOp, pe_ne, pe_same, h0, h3, resolve]; kernel_rfl) (HA2.out _ _ (HFin.out _ _ HD.out HS5.out)) ?_
          rintro W6 hb
          have HS6 : Hid (Below wr.heap.size wr W6) := hide (HS5.out.trans (hb.mono HS5.out.size))
          replace HD := hide (own_keep HD.out fun k e => hb.block k (HD.out.lt k e).2)
          replace HF := hide ((hb.block _ (lt_of_block HF.out)).trans HF.out)
          clear hb
          refine hK.out _ _ (HS6.out) (fun hHeld => ?_)
          clear hK K
          refine wU 7 162 (.tuple #[.agg #[.int .i64 (fr : Int), .int .i64 (fa : Int)], .bool bb, .int .i64 0]) (hQ := fun _ _ _ h => by cases h.1) (y := fun w1 hSw => by simp (disch := first | decide | omega | (simp only [pe_size]; omega)) only [List.getElem_toArray, List.getElem_cons_succ, List.getElem_cons_zero, List.map_toArray, List.map_cons, List.map_nil, execOp, pe_ne, pe_same, h0, h3]; kernel_rfl) (s := hHeld) (h := ?_)
          refine wU 8 170 (.agg #[.int .i64 (fr : Int), .int .i64 (fa : Int)]) (hQ := fun _ _ _ h => by cases h.1) (y := fun w1 hSw => by simp (disch := first | decide | omega | (simp only [pe_size]; omega)) only [List.getElem_toArray, List.getElem_cons_succ, List.getElem_cons_zero, List.map_toArray, List.map_cons, List.map_nil, execOp, pe_ne, pe_same, h0, h3]; kernel_rfl) (s := hHeld) (h := ?_)
          refine wU 9 171 (.bool bb) (hQ := fun _ _ _ h => by cases h.1) (y := fun w1 hSw => by simp (disch := first | decide | omega | (simp only [pe_size]; omega)) only [List.getElem_toArray, List.getElem_cons_succ, List.getElem_cons_zero, List.map_toArray, List.map_cons, List.map_nil, execOp, pe_ne, pe_same, h0, h3]; kernel_rfl) (s := hHeld) (h := ?_)
          refine wU 10 172 (.int .i64 0) (hQ := fun _ _ _ h => by cases h.1) (y := fun w1 hSw => by simp (disch := first | decide | omega | (simp only [pe_size]; omega)) only [List.getElem_toArray, List.getElem_cons_succ, List.getElem_cons_zero, List.map_toArray, List.map_cons, List.map_nil, execOp, pe_ne, pe_same, h0, h3]; kernel_rfl) (s := hHeld) (h := ?_)
          clear hHeld
          obtain ⟨f0, f1, fz⟩ := two_of HF.out
          have fz0 := fz 0
          have fz1 := fz 1
          clear fz
          obtain ⟨W7, hw⟩ : ∃ V, V = (W6.setCell ⟨W3.heap.size, 0, none⟩ (.int .i64 (fr : Int))).setCell ⟨W3.heap.size, 1, none⟩ (.int .i64 (fa : Int)) := ⟨_, rfl⟩
          have HS7 : Hid (Below wr.heap.size wr W7) := hide (by rw [hw]; exact (HS6.out.setCell (p := ⟨W3.heap.size, 0, none⟩) HS3.out.size _).setCell (p := ⟨W3.heap.size, 1, none⟩) HS3.out.size _)
          have HZ : Hid (W7.heap[W3.heap.size]? = some (.cells #[.int .i64 (fr : Int), .int .i64 (fa : Int)] 25 (0, 0))) := hide (by rw [hw]; exact hset2 _ _ HF.out)
          refine one_store W7 (i := 12) (by kernel_rfl) rfl rfl rfl (by rw [hw]; exact st1 rfl (by simp (disch := first | decide | omega | (simp only [pe_size]; omega)) only [List.getElem_toArray, List.getElem_cons_succ, List.getElem_cons_zero, List.map_toArray, List.map_cons, List.map_nil, execOp, pe_ne, pe_same, h0, h3]) (by simp (disch := first | decide | omega | (simp only [pe_size]; omega)) only [List.getElem_toArray, List.getElem_cons_succ, List.getElem_cons_zero, List.map_toArray, List.map_cons, List.map_nil, execOp, pe_ne, pe_same, h0, h3]) f0 f1 fz0 fz1) (HS7.out) (fun hHeld => ?_)
          clear hw f0 f1 fz0 fz1
          refine wU 13 6 (.bool bb) (hQ := fun _ _ _ h => by cases h.1) (y := fun w1 hSw => by simp (disch := first | decide | omega | (simp only [pe_size]; omega)) only [List.getElem_toArray, List.getElem_cons_succ, List.getElem_cons_zero, List.map_toArray, List.map_cons, List.map_nil, execOp, pe_ne, pe_same, h0, h3]; kernel_rfl) (s := hHeld) (h := ?_)
          refine wU 14 14 (.int .i64 0) (hQ := fun _ _ _ h => by cases h.1) (y := fun w1 hSw => by simp (disch := first | decide | omega | (simp only [pe_size]; omega)) only [List.getElem_toArray, List.getElem_cons_succ, List.getElem_cons_zero, List.map_toArray, List.map_cons, List.map_nil, execOp, pe_ne, pe_same, h0, h3]; kernel_rfl) (s := hHeld) (h := ?_)
          refine wpAnyH_done (by kernel_rfl) ?_ _
          exact ⟨rfl, _, _, _, _, _, (putAll_perm (perm_at (L := [(163, .slice (some ⟨W1.heap.size, 0, none⟩) 0 0), (164, .slice p l.length cap), (165, vB), (166, .agg #[.int .i64 ek, .int .i64 eo, .int .i64 en, .int .i64 el, .int .i64 ej, .int .i64 eb, .int .i64 ei, .int .i64 ec, .int .i64 es, .int .i64 er, .int .u64 ew, .string ex, .slice q et.length cq]), (167, .slice (some ⟨W0.heap.size, 0, none⟩) 1 1), (168, vD), (169, .tuple #[.agg #[.int .i64 (fr : Int), .int .i64 (fa : Int)], .bool bb, .int .i64 0]), (162, .tuple #[.agg #[.int .i64 (fr : Int), .int .i64 (fa : Int)], .bool bb, .int .i64 0]), (170, .agg #[.int .i64 (fr : Int), .int .i64 (fa : Int)]), (171, .bool bb), (172, .int .i64 0), (13, .pointer (some ⟨W3.heap.size, 0, none⟩)), (6, .bool bb), (14, .int .i64 0)]) [1, 3, 4, 0, 2, 11, 5, 6, 7, 8, 9, 10, 12, 13] (by show (List.range 14).Perm [1, 3, 4, 0, 2, 11, 5, 6, 7, 8, 9, 10, 12, 13]; decide)) (by show ([163, 164, 165, 166, 167, 168, 169, 162, 170, 171, 172, 13, 6, 14] : List Nat).Nodup; decide) a).symm, HZ, HS7⟩
      · clear hHeld
        obtain ⟨W3, hw⟩ : ∃ V, V = W2.alloc (.cells #[.int .i64 0, .int .i64 0] 25) := ⟨_, rfl⟩
        refine sV 13 (.pointer (some ⟨W2.heap.size, 0, none⟩)) W3 rfl rfl (by rw [hw]; kernel_rfl) ?_
        have hb : Below W2.heap.size W2 W3 := by rw [hw]; exact below_alloc _ _
        have HS3 : Hid (Below wr.heap.size wr W3) := hide (HS2.out.trans (hb.mono HS2.out.size))
        replace HA := hide (own_keep HA.out fun k e => hb.block k (HA.out.lt k e).2)
        replace HC := hide ((hb.block _ (lt_of_block HC.out)).trans HC.out)
        have HF : Hid (W3.heap[W2.heap.size]? = some (.cells #[.int .i64 0, .int .i64 0] 25 (0, 0))) := hide (by rw [hw]; exact heap_alloc_new _ _)
        clear hw hb
        refine hK.out _ _ (HS3.out) (fun hHeld => ?_)
        clear hK K
        refine wpAnyH_ready (rs := [2]) (by kernel_rfl) (by simp) ?_
        refine AllReadyH.cons rfl (fun K hK => ?_) AllReadyH.nil
        clear hHeld
        obtain ⟨vB, W4, hrun, hown, hgrow, hbB, aB, cB, hvB⟩ := run_srv HA.out (HSrc1.out W3 HS3.out) (HT1.out W3 HS3.out) (by first | omega | (simp only [List.length_singleton]; omega)) (by first | omega | (simp only [List.length_singleton]; omega)) HS3.out.size
        have HS4 : Hid (Below wr.heap.size wr W4) := hide (HS3.out.trans hbB)
        have HRun := hide hrun
        have HB := hide hown
        replace HC := hide ((hgrow.block _ (lt_of_block HC.out) (fun e => HAC.out (Option.some.inj e))).trans HC.out)
        replace HF := hide ((hgrow.block _ (lt_of_block HF.out) (fun e => by obtain ⟨c, hc⟩ := own_type HA.out _ e.symm; rw [HF.out] at hc; injection hc with hc; injection hc with _ hc; exact absurd hc (by decide))).trans HF.out)
        clear hrun hown hgrow hbB hvB
        refine sA 165 (.tmp 163) (.tmp 164) 22 rfl rfl rfl (by simp (disch := first | decide | omega | (simp only [pe_size]; omega)) only [List.getElem_toArray, List.getElem_cons_succ, List.getElem_cons_zero, List.map_toArray, List.map_cons, List.map_nil, execOp, pe_ne, pe_same, h0, h3]) (by simp (disch := first | decide | omega | (simp only [pe_size]; omega)) only [List.getElem_toArray, List.getElem_cons_succ, List.getElem_cons_zero, List.map_toArray, List.map_cons, List.map_nil, execOp, pe_ne, pe_same, h0, h3]) HRun.out ?_
        clear HRun
        refine hK.out _ _ (HS4.out) (fun hHeld => ?_)
        clear hK K
        refine wpAnyH_ready (rs := [5]) (by kernel_rfl) (by simp) ?_
        refine AllReadyH.cons rfl (fun K hK => ?_) AllReadyH.nil
        clear hHeld
        obtain ⟨vD, W5, hrun, hown, hgrow, hbB, aD, cD, hvD⟩ := run_srv HB.out (Srv.one (x := ⟨ek, eo, en, el, ej, eb, ei, ec, es, er, ew, ex, et⟩) (t := .slice q et.length cq) HC.out) (HTx.out W4 HS4.out) (by first | omega | (simp only [List.length_singleton]; omega)) (by first | omega | (simp only [List.length_singleton]; omega)) HS4.out.size
        have HS5 : Hid (Below wr.heap.size wr W5) := hide (HS4.out.trans hbB)
        have HRun := hide hrun
        have HD := hide hown
        replace HF := hide ((hgrow.block _ (lt_of_block HF.out) (fun e => by obtain ⟨c, hc⟩ := own_type HB.out _ e.symm; rw [HF.out] at hc; injection hc with hc; injection hc with _ hc; exact absurd hc (by decide))).trans HF.out)
        clear hrun hown hgrow hbB hvD
        refine sA 168 (.tmp 165) (.tmp 167) 22 rfl rfl rfl (by simp (disch := first | decide | omega | (simp only [pe_size]; omega)) only [List.getElem_toArray, List.getElem_cons_succ, List.getElem_cons_zero, List.map_toArray, List.map_cons, List.map_nil, execOp, pe_ne, pe_same, h0, h3]) (by simp (disch := first | decide | omega | (simp only [pe_size]; omega)) only [List.getElem_toArray, List.getElem_cons_succ, List.getElem_cons_zero, List.map_toArray, List.map_cons, List.map_nil, execOp, pe_ne, pe_same, h0, h3]) HRun.out ?_
        clear HRun
        refine hK.out _ _ (HS5.out) (fun hHeld => ?_)
        clear hK K
        refine wpAnyH_ready (rs := [6]) (by kernel_rfl) (by simp) ?_
        refine AllReadyH.cons rfl (fun K hK => ?_) AllReadyH.nil
        clear hHeld
        refine sC 169 (.tuple #[.agg #[.int .i64 (fr : Int), .int .i64 (fa : Int)], .bool bb, .int .i64 0]) rfl rfl (by simp (disch := first | decide | omega | (simp only [pe_size]; omega)) only [List.getElem_toArray, List.getElem_cons_succ, List.getElem_cons_zero, List.map_toArray, List.map_cons, List.map_nil, execOp, pe_ne, pe_same, h0, h3, resolve]; kernel_rfl) (HA2.out _ _ (HFin.out _ _ HD.out HS5.out)) ?_
        rintro W6 hb
        have HS6 : Hid (Below wr.heap.size wr W6) := hide (HS5.out.trans (hb.mono HS5.out.size))
        replace HD := hide (own_keep HD.out fun k e => hb.block k (HD.out.lt k e).2)
        replace HF := hide ((hb.block _ (lt_of_block HF.out)).trans HF.out)
        clear hb
        refine hK.out _ _ (HS6.out) (fun hHeld => ?_)
        clear hK K
        refine wU 7 162 (.tuple #[.agg #[.int .i64 (fr : Int), .int .i64 (fa : Int)], .bool bb, .int .i64 0]) (hQ := fun _ _ _ h => by cases h.1) (y := fun w1 hSw => by simp (disch := first | decide | omega | (simp only [pe_size]; omega)) only [List.getElem_toArray, List.getElem_cons_succ, List.getElem_cons_zero, List.map_toArray, List.map_cons, List.map_nil, execOp, pe_ne, pe_same, h0, h3]; kernel_rfl) (s := hHeld) (h := ?_)
        refine wU 8 170 (.agg #[.int .i64 (fr : Int), .int .i64 (fa : Int)]) (hQ := fun _ _ _ h => by cases h.1) (y := fun w1 hSw => by simp (disch := first | decide | omega | (simp only [pe_size]; omega)) only [List.getElem_toArray, List.getElem_cons_succ, List.getElem_cons_zero, List.map_toArray, List.map_cons, List.map_nil, execOp, pe_ne, pe_same, h0, h3]; kernel_rfl) (s := hHeld) (h := ?_)
        refine wU 9 171 (.bool bb) (hQ := fun _ _ _ h => by cases h.1) (y := fun w1 hSw => by simp (disch := first | decide | omega | (simp only [pe_size]; omega)) only [List.getElem_toArray, List.getElem_cons_succ, List.getElem_cons_zero, List.map_toArray, List.map_cons, List.map_nil, execOp, pe_ne, pe_same, h0, h3]; kernel_rfl) (s := hHeld) (h := ?_)
        refine wU 10 172 (.int .i64 0) (hQ := fun _ _ _ h => by cases h.1) (y := fun w1 hSw => by simp (disch := first | decide | omega | (simp only [pe_size]; omega)) only [List.getElem_toArray, List.getElem_cons_succ, List.getElem_cons_zero, List.map_toArray, List.map_cons, List.map_nil, execOp, pe_ne, pe_same, h0, h3]; kernel_rfl) (s := hHeld) (h := ?_)
        clear hHeld
        obtain ⟨f0, f1, fz⟩ := two_of HF.out
        have fz0 := fz 0
        have fz1 := fz 1
        clear fz
        obtain ⟨W7, hw⟩ : ∃ V, V = (W6.setCell ⟨W2.heap.size, 0, none⟩ (.int .i64 (fr : Int))).setCell ⟨W2.heap.size, 1, none⟩ (.int .i64 (fa : Int)) := ⟨_, rfl⟩
        have HS7 : Hid (Below wr.heap.size wr W7) := hide (by rw [hw]; exact (HS6.out.setCell (p := ⟨W2.heap.size, 0, none⟩) HS2.out.size _).setCell (p := ⟨W2.heap.size, 1, none⟩) HS2.out.size _)
        have HZ : Hid (W7.heap[W2.heap.size]? = some (.cells #[.int .i64 (fr : Int), .int .i64 (fa : Int)] 25 (0, 0))) := hide (by rw [hw]; exact hset2 _ _ HF.out)
        refine one_store W7 (i := 12) (by kernel_rfl) rfl rfl rfl (by rw [hw]; exact st1 rfl (by simp (disch := first | decide | omega | (simp only [pe_size]; omega)) only [List.getElem_toArray, List.getElem_cons_succ, List.getElem_cons_zero, List.map_toArray, List.map_cons, List.map_nil, execOp, pe_ne, pe_same, h0, h3]) (by simp (disch := first | decide | omega | (simp only [pe_size]; omega)) only [List.getElem_toArray, List.getElem_cons_succ, List.getElem_cons_zero, List.map_toArray, List.map_cons, List.map_nil, execOp, pe_ne, pe_same, h0, h3]) f0 f1 fz0 fz1) (HS7.out) (fun hHeld => ?_)
        clear hw f0 f1 fz0 fz1
        refine wU 13 6 (.bool bb) (hQ := fun _ _ _ h => by cases h.1) (y := fun w1 hSw => by simp (disch := first | decide | omega | (simp only [pe_size]; omega)) only [List.getElem_toArray, List.getElem_cons_succ, List.getElem_cons_zero, List.map_toArray, List.map_cons, List.map_nil, execOp, pe_ne, pe_same, h0, h3]; kernel_rfl) (s := hHeld) (h := ?_)
        refine wU 14 14 (.int .i64 0) (hQ := fun _ _ _ h => by cases h.1) (y := fun w1 hSw => by simp (disch := first | decide | omega | (simp only [pe_size]; omega)) only [List.getElem_toArray, List.getElem_cons_succ, List.getElem_cons_zero, List.map_toArray, List.map_cons, List.map_nil, execOp, pe_ne, pe_same, h0, h3]; kernel_rfl) (s := hHeld) (h := ?_)
        refine wpAnyH_done (by kernel_rfl) ?_ _
        exact ⟨rfl, _, _, _, _, _, (putAll_perm (perm_at (L := [(163, .slice (some ⟨W1.heap.size, 0, none⟩) 0 0), (164, .slice p l.length cap), (165, vB), (166, .agg #[.int .i64 ek, .int .i64 eo, .int .i64 en, .int .i64 el, .int .i64 ej, .int .i64 eb, .int .i64 ei, .int .i64 ec, .int .i64 es, .int .i64 er, .int .u64 ew, .string ex, .slice q et.length cq]), (167, .slice (some ⟨W0.heap.size, 0, none⟩) 1 1), (168, vD), (169, .tuple #[.agg #[.int .i64 (fr : Int), .int .i64 (fa : Int)], .bool bb, .int .i64 0]), (162, .tuple #[.agg #[.int .i64 (fr : Int), .int .i64 (fa : Int)], .bool bb, .int .i64 0]), (170, .agg #[.int .i64 (fr : Int), .int .i64 (fa : Int)]), (171, .bool bb), (172, .int .i64 0), (13, .pointer (some ⟨W2.heap.size, 0, none⟩)), (6, .bool bb), (14, .int .i64 0)]) [1, 3, 4, 0, 11, 2, 5, 6, 7, 8, 9, 10, 12, 13] (by show (List.range 14).Perm [1, 3, 4, 0, 11, 2, 5, 6, 7, 8, 9, 10, 12, 13]; decide)) (by show ([163, 164, 165, 166, 167, 168, 169, 162, 170, 171, 172, 13, 6, 14] : List Nat).Nodup; decide) a).symm, HZ, HS7⟩
    · clear hHeld
      obtain ⟨W2, hw⟩ : ∃ V, V = W1.alloc (.cells #[.int .i64 0, .int .i64 0] 25) := ⟨_, rfl⟩
      refine sV 13 (.pointer (some ⟨W1.heap.size, 0, none⟩)) W2 rfl rfl (by rw [hw]; kernel_rfl) ?_
      have hb : Below W1.heap.size W1 W2 := by rw [hw]; exact below_alloc _ _
      have HS2 : Hid (Below wr.heap.size wr W2) := hide (HS1.out.trans (hb.mono HS1.out.size))
      replace HC := hide ((hb.block _ (lt_of_block HC.out)).trans HC.out)
      have HF : Hid (W2.heap[W1.heap.size]? = some (.cells #[.int .i64 0, .int .i64 0] 25 (0, 0))) := hide (by rw [hw]; exact heap_alloc_new _ _)
      clear hw hb
      refine hK.out _ _ (HS2.out) (fun hHeld => ?_)
      clear hK K
      refine wpAnyH_ready (rs := [0]) (by kernel_rfl) (by simp) ?_
      refine AllReadyH.cons rfl (fun K hK => ?_) AllReadyH.nil
      clear hHeld
      obtain ⟨W3, hw⟩ : ∃ V, V = W2.alloc (.cells #[] 43) := ⟨_, rfl⟩
      refine sV 163 (.slice (some ⟨W2.heap.size, 0, none⟩) 0 0) W3 rfl rfl (by rw [hw]; kernel_rfl) ?_
      have hb : Below W2.heap.size W2 W3 := by rw [hw]; exact below_alloc _ _
      have HS3 : Hid (Below wr.heap.size wr W3) := hide (HS2.out.trans (hb.mono HS2.out.size))
      have HAC : Hid (W0.heap.size ≠ W2.heap.size) := hide (by have h1 : W0.heap.size < W2.heap.size := lt_of_block HC.out; omega)
      replace HC := hide ((hb.block _ (lt_of_block HC.out)).trans HC.out)
      replace HF := hide ((hb.block _ (lt_of_block HF.out)).trans HF.out)
      have HA : Hid (W3.ownsRow wr.heap.size 43 13 (.slice (some ⟨W2.heap.size, 0, none⟩) 0 0) 0 []) := hide (by rw [hw]; exact World.ownsRow_made W2 #[] 0 HS2.out.size (by decide) rfl)
      clear hw hb
      refine hK.out _ _ (HS3.out) (fun hHeld => ?_)
      clear hK K
      refine wpAnyH_ready (rs := [2]) (by kernel_rfl) (by simp) ?_
      refine AllReadyH.cons rfl (fun K hK => ?_) AllReadyH.nil
      clear hHeld
      obtain ⟨vB, W4, hrun, hown, hgrow, hbB, aB, cB, hvB⟩ := run_srv HA.out (HSrc1.out W3 HS3.out) (HT1.out W3 HS3.out) (by first | omega | (simp only [List.length_singleton]; omega)) (by first | omega | (simp only [List.length_singleton]; omega)) HS3.out.size
      have HS4 : Hid (Below wr.heap.size wr W4) := hide (HS3.out.trans hbB)
      have HRun := hide hrun
      have HB := hide hown
      replace HC := hide ((hgrow.block _ (lt_of_block HC.out) (fun e => HAC.out (Option.some.inj e))).trans HC.out)
      replace HF := hide ((hgrow.block _ (lt_of_block HF.out) (fun e => by obtain ⟨c, hc⟩ := own_type HA.out _ e.symm; rw [HF.out] at hc; injection hc with hc; injection hc with _ hc; exact absurd hc (by decide))).trans HF.out)
      clear hrun hown hgrow hbB hvB
      refine sA 165 (.tmp 163) (.tmp 164) 22 rfl rfl rfl (by simp (disch := first | decide | omega | (simp only [pe_size]; omega)) only [List.getElem_toArray, List.getElem_cons_succ, List.getElem_cons_zero, List.map_toArray, List.map_cons, List.map_nil, execOp, pe_ne, pe_same, h0, h3]) (by simp (disch := first | decide | omega | (simp only [pe_size]; omega)) only [List.getElem_toArray, List.getElem_cons_succ, List.getElem_cons_zero, List.map_toArray, List.map_cons, List.map_nil, execOp, pe_ne, pe_same, h0, h3]) HRun.out ?_
      clear HRun
      refine hK.out _ _ (HS4.out) (fun hHeld => ?_)
      clear hK K
      refine wpAnyH_ready (rs := [5]) (by kernel_rfl) (by simp) ?_
      refine AllReadyH.cons rfl (fun K hK => ?_) AllReadyH.nil
      clear hHeld
      obtain ⟨vD, W5, hrun, hown, hgrow, hbB, aD, cD, hvD⟩ := run_srv HB.out (Srv.one (x := ⟨ek, eo, en, el, ej, eb, ei, ec, es, er, ew, ex, et⟩) (t := .slice q et.length cq) HC.out) (HTx.out W4 HS4.out) (by first | omega | (simp only [List.length_singleton]; omega)) (by first | omega | (simp only [List.length_singleton]; omega)) HS4.out.size
      have HS5 : Hid (Below wr.heap.size wr W5) := hide (HS4.out.trans hbB)
      have HRun := hide hrun
      have HD := hide hown
      replace HF := hide ((hgrow.block _ (lt_of_block HF.out) (fun e => by obtain ⟨c, hc⟩ := own_type HB.out _ e.symm; rw [HF.out] at hc; injection hc with hc; injection hc with _ hc; exact absurd hc (by decide))).trans HF.out)
      clear hrun hown hgrow hbB hvD
      refine sA 168 (.tmp 165) (.tmp 167) 22 rfl rfl rfl (by simp (disch := first | decide | omega | (simp only [pe_size]; omega)) only [List.getElem_toArray, List.getElem_cons_succ, List.getElem_cons_zero, List.map_toArray, List.map_cons, List.map_nil, execOp, pe_ne, pe_same, h0, h3]) (by simp (disch := first | decide | omega | (simp only [pe_size]; omega)) only [List.getElem_toArray, List.getElem_cons_succ, List.getElem_cons_zero, List.map_toArray, List.map_cons, List.map_nil, execOp, pe_ne, pe_same, h0, h3]) HRun.out ?_
      clear HRun
      refine hK.out _ _ (HS5.out) (fun hHeld => ?_)
      clear hK K
      refine wpAnyH_ready (rs := [6]) (by kernel_rfl) (by simp) ?_
      refine AllReadyH.cons rfl (fun K hK => ?_) AllReadyH.nil
      clear hHeld
      refine sC 169 (.tuple #[.agg #[.int .i64 (fr : Int), .int .i64 (fa : Int)], .bool bb, .int .i64 0]) rfl rfl (by simp (disch := first | decide | omega | (simp only [pe_size]; omega)) only [List.getElem_toArray, List.getElem_cons_succ, List.getElem_cons_zero, List.map_toArray, List.map_cons, List.map_nil, execOp, pe_ne, pe_same, h0, h3, resolve]; kernel_rfl) (HA2.out _ _ (HFin.out _ _ HD.out HS5.out)) ?_
      rintro W6 hb
      have HS6 : Hid (Below wr.heap.size wr W6) := hide (HS5.out.trans (hb.mono HS5.out.size))
      replace HD := hide (own_keep HD.out fun k e => hb.block k (HD.out.lt k e).2)
      replace HF := hide ((hb.block _ (lt_of_block HF.out)).trans HF.out)
      clear hb
      refine hK.out _ _ (HS6.out) (fun hHeld => ?_)
      clear hK K
      refine wU 7 162 (.tuple #[.agg #[.int .i64 (fr : Int), .int .i64 (fa : Int)], .bool bb, .int .i64 0]) (hQ := fun _ _ _ h => by cases h.1) (y := fun w1 hSw => by simp (disch := first | decide | omega | (simp only [pe_size]; omega)) only [List.getElem_toArray, List.getElem_cons_succ, List.getElem_cons_zero, List.map_toArray, List.map_cons, List.map_nil, execOp, pe_ne, pe_same, h0, h3]; kernel_rfl) (s := hHeld) (h := ?_)
      refine wU 8 170 (.agg #[.int .i64 (fr : Int), .int .i64 (fa : Int)]) (hQ := fun _ _ _ h => by cases h.1) (y := fun w1 hSw => by simp (disch := first | decide | omega | (simp only [pe_size]; omega)) only [List.getElem_toArray, List.getElem_cons_succ, List.getElem_cons_zero, List.map_toArray, List.map_cons, List.map_nil, execOp, pe_ne, pe_same, h0, h3]; kernel_rfl) (s := hHeld) (h := ?_)
      refine wU 9 171 (.bool bb) (hQ := fun _ _ _ h => by cases h.1) (y := fun w1 hSw => by simp (disch := first | decide | omega | (simp only [pe_size]; omega)) only [List.getElem_toArray, List.getElem_cons_succ, List.getElem_cons_zero, List.map_toArray, List.map_cons, List.map_nil, execOp, pe_ne, pe_same, h0, h3]; kernel_rfl) (s := hHeld) (h := ?_)
      refine wU 10 172 (.int .i64 0) (hQ := fun _ _ _ h => by cases h.1) (y := fun w1 hSw => by simp (disch := first | decide | omega | (simp only [pe_size]; omega)) only [List.getElem_toArray, List.getElem_cons_succ, List.getElem_cons_zero, List.map_toArray, List.map_cons, List.map_nil, execOp, pe_ne, pe_same, h0, h3]; kernel_rfl) (s := hHeld) (h := ?_)
      clear hHeld
      obtain ⟨f0, f1, fz⟩ := two_of HF.out
      have fz0 := fz 0
      have fz1 := fz 1
      clear fz
      obtain ⟨W7, hw⟩ : ∃ V, V = (W6.setCell ⟨W1.heap.size, 0, none⟩ (.int .i64 (fr : Int))).setCell ⟨W1.heap.size, 1, none⟩ (.int .i64 (fa : Int)) := ⟨_, rfl⟩
      have HS7 : Hid (Below wr.heap.size wr W7) := hide (by rw [hw]; exact (HS6.out.setCell (p := ⟨W1.heap.size, 0, none⟩) HS1.out.size _).setCell (p := ⟨W1.heap.size, 1, none⟩) HS1.out.size _)
      have HZ : Hid (W7.heap[W1.heap.size]? = some (.cells #[.int .i64 (fr : Int), .int .i64 (fa : Int)] 25 (0, 0))) := hide (by rw [hw]; exact hset2 _ _ HF.out)
      refine one_store W7 (i := 12) (by kernel_rfl) rfl rfl rfl (by rw [hw]; exact st1 rfl (by simp (disch := first | decide | omega | (simp only [pe_size]; omega)) only [List.getElem_toArray, List.getElem_cons_succ, List.getElem_cons_zero, List.map_toArray, List.map_cons, List.map_nil, execOp, pe_ne, pe_same, h0, h3]) (by simp (disch := first | decide | omega | (simp only [pe_size]; omega)) only [List.getElem_toArray, List.getElem_cons_succ, List.getElem_cons_zero, List.map_toArray, List.map_cons, List.map_nil, execOp, pe_ne, pe_same, h0, h3]) f0 f1 fz0 fz1) (HS7.out) (fun hHeld => ?_)
      clear hw f0 f1 fz0 fz1
      refine wU 13 6 (.bool bb) (hQ := fun _ _ _ h => by cases h.1) (y := fun w1 hSw => by simp (disch := first | decide | omega | (simp only [pe_size]; omega)) only [List.getElem_toArray, List.getElem_cons_succ, List.getElem_cons_zero, List.map_toArray, List.map_cons, List.map_nil, execOp, pe_ne, pe_same, h0, h3]; kernel_rfl) (s := hHeld) (h := ?_)
      refine wU 14 14 (.int .i64 0) (hQ := fun _ _ _ h => by cases h.1) (y := fun w1 hSw => by simp (disch := first | decide | omega | (simp only [pe_size]; omega)) only [List.getElem_toArray, List.getElem_cons_succ, List.getElem_cons_zero, List.map_toArray, List.map_cons, List.map_nil, execOp, pe_ne, pe_same, h0, h3]; kernel_rfl) (s := hHeld) (h := ?_)
      refine wpAnyH_done (by kernel_rfl) ?_ _
      exact ⟨rfl, _, _, _, _, _, (putAll_perm (perm_at (L := [(163, .slice (some ⟨W2.heap.size, 0, none⟩) 0 0), (164, .slice p l.length cap), (165, vB), (166, .agg #[.int .i64 ek, .int .i64 eo, .int .i64 en, .int .i64 el, .int .i64 ej, .int .i64 eb, .int .i64 ei, .int .i64 ec, .int .i64 es, .int .i64 er, .int .u64 ew, .string ex, .slice q et.length cq]), (167, .slice (some ⟨W0.heap.size, 0, none⟩) 1 1), (168, vD), (169, .tuple #[.agg #[.int .i64 (fr : Int), .int .i64 (fa : Int)], .bool bb, .int .i64 0]), (162, .tuple #[.agg #[.int .i64 (fr : Int), .int .i64 (fa : Int)], .bool bb, .int .i64 0]), (170, .agg #[.int .i64 (fr : Int), .int .i64 (fa : Int)]), (171, .bool bb), (172, .int .i64 0), (13, .pointer (some ⟨W1.heap.size, 0, none⟩)), (6, .bool bb), (14, .int .i64 0)]) [1, 3, 4, 11, 0, 2, 5, 6, 7, 8, 9, 10, 12, 13] (by show (List.range 14).Perm [1, 3, 4, 11, 0, 2, 5, 6, 7, 8, 9, 10, 12, 13]; decide)) (by show ([163, 164, 165, 166, 167, 168, 169, 162, 170, 171, 172, 13, 6, 14] : List Nat).Nodup; decide) a).symm, HZ, HS7⟩
  · clear hHeld
    obtain ⟨W1, hw⟩ : ∃ V, V = W0.alloc (.cells #[.int .i64 0, .int .i64 0] 25) := ⟨_, rfl⟩
    refine sV 13 (.pointer (some ⟨W0.heap.size, 0, none⟩)) W1 rfl rfl (by rw [hw]; kernel_rfl) ?_
    have hb : Below W0.heap.size W0 W1 := by rw [hw]; exact below_alloc _ _
    have HS1 : Hid (Below wr.heap.size wr W1) := hide (HS0.out.trans (hb.mono HS0.out.size))
    have HF : Hid (W1.heap[W0.heap.size]? = some (.cells #[.int .i64 0, .int .i64 0] 25 (0, 0))) := hide (by rw [hw]; exact heap_alloc_new _ _)
    clear hw hb
    refine hK.out _ _ (HS1.out) (fun hHeld => ?_)
    clear hK K
    refine wpAnyH_ready (rs := [0, 4]) (by kernel_rfl) (by simp) ?_
    refine AllReadyH.cons rfl (fun K hK => ?_) (AllReadyH.cons rfl (fun K hK => ?_) AllReadyH.nil)
    · clear hHeld
      obtain ⟨W2, hw⟩ : ∃ V, V = W1.alloc (.cells #[] 43) := ⟨_, rfl⟩
      refine sV 163 (.slice (some ⟨W1.heap.size, 0, none⟩) 0 0) W2 rfl rfl (by rw [hw]; kernel_rfl) ?_
      have hb : Below W1.heap.size W1 W2 := by rw [hw]; exact below_alloc _ _
      have HS2 : Hid (Below wr.heap.size wr W2) := hide (HS1.out.trans (hb.mono HS1.out.size))
      replace HF := hide ((hb.block _ (lt_of_block HF.out)).trans HF.out)
      have HA : Hid (W2.ownsRow wr.heap.size 43 13 (.slice (some ⟨W1.heap.size, 0, none⟩) 0 0) 0 []) := hide (by rw [hw]; exact World.ownsRow_made W1 #[] 0 HS1.out.size (by decide) rfl)
      clear hw hb
      refine hK.out _ _ (HS2.out) (fun hHeld => ?_)
      clear hK K
      refine wpAnyH_ready (rs := [2, 4]) (by kernel_rfl) (by simp) ?_
      refine AllReadyH.cons rfl (fun K hK => ?_) (AllReadyH.cons rfl (fun K hK => ?_) AllReadyH.nil)
      · clear hHeld
        obtain ⟨vB, W3, hrun, hown, hgrow, hbB, aB, cB, hvB⟩ := run_srv HA.out (HSrc1.out W2 HS2.out) (HT1.out W2 HS2.out) (by first | omega | (simp only [List.length_singleton]; omega)) (by first | omega | (simp only [List.length_singleton]; omega)) HS2.out.size
        have HS3 : Hid (Below wr.heap.size wr W3) := hide (HS2.out.trans hbB)
        have HRun := hide hrun
        have HB := hide hown
        replace HF := hide ((hgrow.block _ (lt_of_block HF.out) (fun e => by obtain ⟨c, hc⟩ := own_type HA.out _ e.symm; rw [HF.out] at hc; injection hc with hc; injection hc with _ hc; exact absurd hc (by decide))).trans HF.out)
        clear hrun hown hgrow hbB hvB
        refine sA 165 (.tmp 163) (.tmp 164) 22 rfl rfl rfl (by simp (disch := first | decide | omega | (simp only [pe_size]; omega)) only [List.getElem_toArray, List.getElem_cons_succ, List.getElem_cons_zero, List.map_toArray, List.map_cons, List.map_nil, execOp, pe_ne, pe_same, h0, h3]) (by simp (disch := first | decide | omega | (simp only [pe_size]; omega)) only [List.getElem_toArray, List.getElem_cons_succ, List.getElem_cons_zero, List.map_toArray, List.map_cons, List.map_nil, execOp, pe_ne, pe_same, h0, h3]) HRun.out ?_
        clear HRun
        refine hK.out _ _ (HS3.out) (fun hHeld => ?_)
        clear hK K
        refine wpAnyH_ready (rs := [4]) (by kernel_rfl) (by simp) ?_
        refine AllReadyH.cons rfl (fun K hK => ?_) AllReadyH.nil
        clear hHeld
        obtain ⟨W4, hw⟩ : ∃ V, V = W3.alloc (.cells #[.int .i64 ek, .int .i64 eo, .int .i64 en, .int .i64 el, .int .i64 ej, .int .i64 eb, .int .i64 ei, .int .i64 ec, .int .i64 es, .int .i64 er, .int .u64 ew, .string ex, .slice q et.length cq] 43) := ⟨_, rfl⟩
        refine sV 167 (.slice (some ⟨W3.heap.size, 0, none⟩) 1 1) W4 rfl rfl (by rw [hw]; exact bs1 rfl (by simp (disch := first | decide | omega | (simp only [pe_size]; omega)) only [List.getElem_toArray, List.getElem_cons_succ, List.getElem_cons_zero, List.map_toArray, List.map_cons, List.map_nil, execOp, pe_ne, pe_same, h0, h3]) _) ?_
        have hb : Below W3.heap.size W3 W4 := by rw [hw]; exact below_alloc _ _
        have HS4 : Hid (Below wr.heap.size wr W4) := hide (HS3.out.trans (hb.mono HS3.out.size))
        replace HB := hide (own_keep HB.out fun k e => hb.block k (HB.out.lt k e).2)
        replace HF := hide ((hb.block _ (lt_of_block HF.out)).trans HF.out)
        have HC : Hid (W4.heap[W3.heap.size]? = some (.cells #[.int .i64 ek, .int .i64 eo, .int .i64 en, .int .i64 el, .int .i64 ej, .int .i64 eb, .int .i64 ei, .int .i64 ec, .int .i64 es, .int .i64 er, .int .u64 ew, .string ex, .slice q et.length cq] 43 (0, 0))) := hide (by rw [hw]; exact heap_alloc_new _ _)
        clear hw hb
        refine hK.out _ _ (HS4.out) (fun hHeld => ?_)
        clear hK K
        refine wpAnyH_ready (rs := [5]) (by kernel_rfl) (by simp) ?_
        refine AllReadyH.cons rfl (fun K hK => ?_) AllReadyH.nil
        clear hHeld
        obtain ⟨vD, W5, hrun, hown, hgrow, hbB, aD, cD, hvD⟩ := run_srv HB.out (Srv.one (x := ⟨ek, eo, en, el, ej, eb, ei, ec, es, er, ew, ex, et⟩) (t := .slice q et.length cq) HC.out) (HTx.out W4 HS4.out) (by first | omega | (simp only [List.length_singleton]; omega)) (by first | omega | (simp only [List.length_singleton]; omega)) HS4.out.size
        have HS5 : Hid (Below wr.heap.size wr W5) := hide (HS4.out.trans hbB)
        have HRun := hide hrun
        have HD := hide hown
        replace HF := hide ((hgrow.block _ (lt_of_block HF.out) (fun e => by obtain ⟨c, hc⟩ := own_type HB.out _ e.symm; rw [HF.out] at hc; injection hc with hc; injection hc with _ hc; exact absurd hc (by decide))).trans HF.out)
        clear hrun hown hgrow hbB hvD
        refine sA 168 (.tmp 165) (.tmp 167) 22 rfl rfl rfl (by simp (disch := first | decide | omega | (simp only [pe_size]; omega)) only [List.getElem_toArray, List.getElem_cons_succ, List.getElem_cons_zero, List.map_toArray, List.map_cons, List.map_nil, execOp, pe_ne, pe_same, h0, h3]) (by simp (disch := first | decide | omega | (simp only [pe_size]; omega)) only [List.getElem_toArray, List.getElem_cons_succ, List.getElem_cons_zero, List.map_toArray, List.map_cons, List.map_nil, execOp, pe_ne, pe_same, h0, h3]) HRun.out ?_
        clear HRun
        refine hK.out _ _ (HS5.out) (fun hHeld => ?_)
        clear hK K
        refine wpAnyH_ready (rs := [6]) (by kernel_rfl) (by simp) ?_
        refine AllReadyH.cons rfl (fun K hK => ?_) AllReadyH.nil
        clear hHeld
        refine sC 169 (.tuple #[.agg #[.int .i64 (fr : Int), .int .i64 (fa : Int)], .bool bb, .int .i64 0]) rfl rfl (by simp (disch := first | decide | omega | (simp only [pe_size]; omega)) only [List.getElem_toArray, List.getElem_cons_succ, List.getElem_cons_zero, List.map_toArray, List.map_cons, List.map_nil, execOp, pe_ne, pe_same, h0, h3, resolve]; kernel_rfl) (HA2.out _ _ (HFin.out _ _ HD.out HS5.out)) ?_
        rintro W6 hb
        have HS6 : Hid (Below wr.heap.size wr W6) := hide (HS5.out.trans (hb.mono HS5.out.size))
        replace HD := hide (own_keep HD.out fun k e => hb.block k (HD.out.lt k e).2)
        replace HF := hide ((hb.block _ (lt_of_block HF.out)).trans HF.out)
        clear hb
        refine hK.out _ _ (HS6.out) (fun hHeld => ?_)
        clear hK K
        refine wU 7 162 (.tuple #[.agg #[.int .i64 (fr : Int), .int .i64 (fa : Int)], .bool bb, .int .i64 0]) (hQ := fun _ _ _ h => by cases h.1) (y := fun w1 hSw => by simp (disch := first | decide | omega | (simp only [pe_size]; omega)) only [List.getElem_toArray, List.getElem_cons_succ, List.getElem_cons_zero, List.map_toArray, List.map_cons, List.map_nil, execOp, pe_ne, pe_same, h0, h3]; kernel_rfl) (s := hHeld) (h := ?_)
        refine wU 8 170 (.agg #[.int .i64 (fr : Int), .int .i64 (fa : Int)]) (hQ := fun _ _ _ h => by cases h.1) (y := fun w1 hSw => by simp (disch := first | decide | omega | (simp only [pe_size]; omega)) only [List.getElem_toArray, List.getElem_cons_succ, List.getElem_cons_zero, List.map_toArray, List.map_cons, List.map_nil, execOp, pe_ne, pe_same, h0, h3]; kernel_rfl) (s := hHeld) (h := ?_)
        refine wU 9 171 (.bool bb) (hQ := fun _ _ _ h => by cases h.1) (y := fun w1 hSw => by simp (disch := first | decide | omega | (simp only [pe_size]; omega)) only [List.getElem_toArray, List.getElem_cons_succ, List.getElem_cons_zero, List.map_toArray, List.map_cons, List.map_nil, execOp, pe_ne, pe_same, h0, h3]; kernel_rfl) (s := hHeld) (h := ?_)
        refine wU 10 172 (.int .i64 0) (hQ := fun _ _ _ h => by cases h.1) (y := fun w1 hSw => by simp (disch := first | decide | omega | (simp only [pe_size]; omega)) only [List.getElem_toArray, List.getElem_cons_succ, List.getElem_cons_zero, List.map_toArray, List.map_cons, List.map_nil, execOp, pe_ne, pe_same, h0, h3]; kernel_rfl) (s := hHeld) (h := ?_)
        clear hHeld
        obtain ⟨f0, f1, fz⟩ := two_of HF.out
        have fz0 := fz 0
        have fz1 := fz 1
        clear fz
        obtain ⟨W7, hw⟩ : ∃ V, V = (W6.setCell ⟨W0.heap.size, 0, none⟩ (.int .i64 (fr : Int))).setCell ⟨W0.heap.size, 1, none⟩ (.int .i64 (fa : Int)) := ⟨_, rfl⟩
        have HS7 : Hid (Below wr.heap.size wr W7) := hide (by rw [hw]; exact (HS6.out.setCell (p := ⟨W0.heap.size, 0, none⟩) HS0.out.size _).setCell (p := ⟨W0.heap.size, 1, none⟩) HS0.out.size _)
        have HZ : Hid (W7.heap[W0.heap.size]? = some (.cells #[.int .i64 (fr : Int), .int .i64 (fa : Int)] 25 (0, 0))) := hide (by rw [hw]; exact hset2 _ _ HF.out)
        refine one_store W7 (i := 12) (by kernel_rfl) rfl rfl rfl (by rw [hw]; exact st1 rfl (by simp (disch := first | decide | omega | (simp only [pe_size]; omega)) only [List.getElem_toArray, List.getElem_cons_succ, List.getElem_cons_zero, List.map_toArray, List.map_cons, List.map_nil, execOp, pe_ne, pe_same, h0, h3]) (by simp (disch := first | decide | omega | (simp only [pe_size]; omega)) only [List.getElem_toArray, List.getElem_cons_succ, List.getElem_cons_zero, List.map_toArray, List.map_cons, List.map_nil, execOp, pe_ne, pe_same, h0, h3]) f0 f1 fz0 fz1) (HS7.out) (fun hHeld => ?_)
        clear hw f0 f1 fz0 fz1
        refine wU 13 6 (.bool bb) (hQ := fun _ _ _ h => by cases h.1) (y := fun w1 hSw => by simp (disch := first | decide | omega | (simp only [pe_size]; omega)) only [List.getElem_toArray, List.getElem_cons_succ, List.getElem_cons_zero, List.map_toArray, List.map_cons, List.map_nil, execOp, pe_ne, pe_same, h0, h3]; kernel_rfl) (s := hHeld) (h := ?_)
        refine wU 14 14 (.int .i64 0) (hQ := fun _ _ _ h => by cases h.1) (y := fun w1 hSw => by simp (disch := first | decide | omega | (simp only [pe_size]; omega)) only [List.getElem_toArray, List.getElem_cons_succ, List.getElem_cons_zero, List.map_toArray, List.map_cons, List.map_nil, execOp, pe_ne, pe_same, h0, h3]; kernel_rfl) (s := hHeld) (h := ?_)
        refine wpAnyH_done (by kernel_rfl) ?_ _
        exact ⟨rfl, _, _, _, _, _, (putAll_perm (perm_at (L := [(163, .slice (some ⟨W1.heap.size, 0, none⟩) 0 0), (164, .slice p l.length cap), (165, vB), (166, .agg #[.int .i64 ek, .int .i64 eo, .int .i64 en, .int .i64 el, .int .i64 ej, .int .i64 eb, .int .i64 ei, .int .i64 ec, .int .i64 es, .int .i64 er, .int .u64 ew, .string ex, .slice q et.length cq]), (167, .slice (some ⟨W3.heap.size, 0, none⟩) 1 1), (168, vD), (169, .tuple #[.agg #[.int .i64 (fr : Int), .int .i64 (fa : Int)], .bool bb, .int .i64 0]), (162, .tuple #[.agg #[.int .i64 (fr : Int), .int .i64 (fa : Int)], .bool bb, .int .i64 0]), (170, .agg #[.int .i64 (fr : Int), .int .i64 (fa : Int)]), (171, .bool bb), (172, .int .i64 0), (13, .pointer (some ⟨W0.heap.size, 0, none⟩)), (6, .bool bb), (14, .int .i64 0)]) [1, 3, 11, 0, 2, 4, 5, 6, 7, 8, 9, 10, 12, 13] (by show (List.range 14).Perm [1, 3, 11, 0, 2, 4, 5, 6, 7, 8, 9, 10, 12, 13]; decide)) (by show ([163, 164, 165, 166, 167, 168, 169, 162, 170, 171, 172, 13, 6, 14] : List Nat).Nodup; decide) a).symm, HZ, HS7⟩
      · clear hHeld
        obtain ⟨W3, hw⟩ : ∃ V, V = W2.alloc (.cells #[.int .i64 ek, .int .i64 eo, .int .i64 en, .int .i64 el, .int .i64 ej, .int .i64 eb, .int .i64 ei, .int .i64 ec, .int .i64 es, .int .i64 er, .int .u64 ew, .string ex, .slice q et.length cq] 43) := ⟨_, rfl⟩
        refine sV 167 (.slice (some ⟨W2.heap.size, 0, none⟩) 1 1) W3 rfl rfl (by rw [hw]; exact bs1 rfl (by simp (disch := first | decide | omega | (simp only [pe_size]; omega)) only [List.getElem_toArray, List.getElem_cons_succ, List.getElem_cons_zero, List.map_toArray, List.map_cons, List.map_nil, execOp, pe_ne, pe_same, h0, h3]) _) ?_
        have hb : Below W2.heap.size W2 W3 := by rw [hw]; exact below_alloc _ _
        have HS3 : Hid (Below wr.heap.size wr W3) := hide (HS2.out.trans (hb.mono HS2.out.size))
        have HAC : Hid (W2.heap.size ≠ W1.heap.size) := hide (by have h1 : W1.heap.size < W2.heap.size := (HA.out.lt _ rfl).2; omega)
        replace HA := hide (own_keep HA.out fun k e => hb.block k (HA.out.lt k e).2)
        replace HF := hide ((hb.block _ (lt_of_block HF.out)).trans HF.out)
        have HC : Hid (W3.heap[W2.heap.size]? = some (.cells #[.int .i64 ek, .int .i64 eo, .int .i64 en, .int .i64 el, .int .i64 ej, .int .i64 eb, .int .i64 ei, .int .i64 ec, .int .i64 es, .int .i64 er, .int .u64 ew, .string ex, .slice q et.length cq] 43 (0, 0))) := hide (by rw [hw]; exact heap_alloc_new _ _)
        clear hw hb
        refine hK.out _ _ (HS3.out) (fun hHeld => ?_)
        clear hK K
        refine wpAnyH_ready (rs := [2]) (by kernel_rfl) (by simp) ?_
        refine AllReadyH.cons rfl (fun K hK => ?_) AllReadyH.nil
        clear hHeld
        obtain ⟨vB, W4, hrun, hown, hgrow, hbB, aB, cB, hvB⟩ := run_srv HA.out (HSrc1.out W3 HS3.out) (HT1.out W3 HS3.out) (by first | omega | (simp only [List.length_singleton]; omega)) (by first | omega | (simp only [List.length_singleton]; omega)) HS3.out.size
        have HS4 : Hid (Below wr.heap.size wr W4) := hide (HS3.out.trans hbB)
        have HRun := hide hrun
        have HB := hide hown
        replace HC := hide ((hgrow.block _ (lt_of_block HC.out) (fun e => HAC.out (Option.some.inj e))).trans HC.out)
        replace HF := hide ((hgrow.block _ (lt_of_block HF.out) (fun e => by obtain ⟨c, hc⟩ := own_type HA.out _ e.symm; rw [HF.out] at hc; injection hc with hc; injection hc with _ hc; exact absurd hc (by decide))).trans HF.out)
        clear hrun hown hgrow hbB hvB
        refine sA 165 (.tmp 163) (.tmp 164) 22 rfl rfl rfl (by simp (disch := first | decide | omega | (simp only [pe_size]; omega)) only [List.getElem_toArray, List.getElem_cons_succ, List.getElem_cons_zero, List.map_toArray, List.map_cons, List.map_nil, execOp, pe_ne, pe_same, h0, h3]) (by simp (disch := first | decide | omega | (simp only [pe_size]; omega)) only [List.getElem_toArray, List.getElem_cons_succ, List.getElem_cons_zero, List.map_toArray, List.map_cons, List.map_nil, execOp, pe_ne, pe_same, h0, h3]) HRun.out ?_
        clear HRun
        refine hK.out _ _ (HS4.out) (fun hHeld => ?_)
        clear hK K
        refine wpAnyH_ready (rs := [5]) (by kernel_rfl) (by simp) ?_
        refine AllReadyH.cons rfl (fun K hK => ?_) AllReadyH.nil
        clear hHeld
        obtain ⟨vD, W5, hrun, hown, hgrow, hbB, aD, cD, hvD⟩ := run_srv HB.out (Srv.one (x := ⟨ek, eo, en, el, ej, eb, ei, ec, es, er, ew, ex, et⟩) (t := .slice q et.length cq) HC.out) (HTx.out W4 HS4.out) (by first | omega | (simp only [List.length_singleton]; omega)) (by first | omega | (simp only [List.length_singleton]; omega)) HS4.out.size
        have HS5 : Hid (Below wr.heap.size wr W5) := hide (HS4.out.trans hbB)
        have HRun := hide hrun
        have HD := hide hown
        replace HF := hide ((hgrow.block _ (lt_of_block HF.out) (fun e => by obtain ⟨c, hc⟩ := own_type HB.out _ e.symm; rw [HF.out] at hc; injection hc with hc; injection hc with _ hc; exact absurd hc (by decide))).trans HF.out)
        clear hrun hown hgrow hbB hvD
        refine sA 168 (.tmp 165) (.tmp 167) 22 rfl rfl rfl (by simp (disch := first | decide | omega | (simp only [pe_size]; omega)) only [List.getElem_toArray, List.getElem_cons_succ, List.getElem_cons_zero, List.map_toArray, List.map_cons, List.map_nil, execOp, pe_ne, pe_same, h0, h3]) (by simp (disch := first | decide | omega | (simp only [pe_size]; omega)) only [List.getElem_toArray, List.getElem_cons_succ, List.getElem_cons_zero, List.map_toArray, List.map_cons, List.map_nil, execOp, pe_ne, pe_same, h0, h3]) HRun.out ?_
        clear HRun
        refine hK.out _ _ (HS5.out) (fun hHeld => ?_)
        clear hK K
        refine wpAnyH_ready (rs := [6]) (by kernel_rfl) (by simp) ?_
        refine AllReadyH.cons rfl (fun K hK => ?_) AllReadyH.nil
        clear hHeld
        refine sC 169 (.tuple #[.agg #[.int .i64 (fr : Int), .int .i64 (fa : Int)], .bool bb, .int .i64 0]) rfl rfl (by simp (disch := first | decide | omega | (simp only [pe_size]; omega)) only [List.getElem_toArray, List.getElem_cons_succ, List.getElem_cons_zero, List.map_toArray, List.map_cons, List.map_nil, execOp, pe_ne, pe_same, h0, h3, resolve]; kernel_rfl) (HA2.out _ _ (HFin.out _ _ HD.out HS5.out)) ?_
        rintro W6 hb
        have HS6 : Hid (Below wr.heap.size wr W6) := hide (HS5.out.trans (hb.mono HS5.out.size))
        replace HD := hide (own_keep HD.out fun k e => hb.block k (HD.out.lt k e).2)
        replace HF := hide ((hb.block _ (lt_of_block HF.out)).trans HF.out)
        clear hb
        refine hK.out _ _ (HS6.out) (fun hHeld => ?_)
        clear hK K
        refine wU 7 162 (.tuple #[.agg #[.int .i64 (fr : Int), .int .i64 (fa : Int)], .bool bb, .int .i64 0]) (hQ := fun _ _ _ h => by cases h.1) (y := fun w1 hSw => by simp (disch := first | decide | omega | (simp only [pe_size]; omega)) only [List.getElem_toArray, List.getElem_cons_succ, List.getElem_cons_zero, List.map_toArray, List.map_cons, List.map_nil, execOp, pe_ne, pe_same, h0, h3]; kernel_rfl) (s := hHeld) (h := ?_)
        refine wU 8 170 (.agg #[.int .i64 (fr : Int), .int .i64 (fa : Int)]) (hQ := fun _ _ _ h => by cases h.1) (y := fun w1 hSw => by simp (disch := first | decide | omega | (simp only [pe_size]; omega)) only [List.getElem_toArray, List.getElem_cons_succ, List.getElem_cons_zero, List.map_toArray, List.map_cons, List.map_nil, execOp, pe_ne, pe_same, h0, h3]; kernel_rfl) (s := hHeld) (h := ?_)
        refine wU 9 171 (.bool bb) (hQ := fun _ _ _ h => by cases h.1) (y := fun w1 hSw => by simp (disch := first | decide | omega | (simp only [pe_size]; omega)) only [List.getElem_toArray, List.getElem_cons_succ, List.getElem_cons_zero, List.map_toArray, List.map_cons, List.map_nil, execOp, pe_ne, pe_same, h0, h3]; kernel_rfl) (s := hHeld) (h := ?_)
        refine wU 10 172 (.int .i64 0) (hQ := fun _ _ _ h => by cases h.1) (y := fun w1 hSw => by simp (disch := first | decide | omega | (simp only [pe_size]; omega)) only [List.getElem_toArray, List.getElem_cons_succ, List.getElem_cons_zero, List.map_toArray, List.map_cons, List.map_nil, execOp, pe_ne, pe_same, h0, h3]; kernel_rfl) (s := hHeld) (h := ?_)
        clear hHeld
        obtain ⟨f0, f1, fz⟩ := two_of HF.out
        have fz0 := fz 0
        have fz1 := fz 1
        clear fz
        obtain ⟨W7, hw⟩ : ∃ V, V = (W6.setCell ⟨W0.heap.size, 0, none⟩ (.int .i64 (fr : Int))).setCell ⟨W0.heap.size, 1, none⟩ (.int .i64 (fa : Int)) := ⟨_, rfl⟩
        have HS7 : Hid (Below wr.heap.size wr W7) := hide (by rw [hw]; exact (HS6.out.setCell (p := ⟨W0.heap.size, 0, none⟩) HS0.out.size _).setCell (p := ⟨W0.heap.size, 1, none⟩) HS0.out.size _)
        have HZ : Hid (W7.heap[W0.heap.size]? = some (.cells #[.int .i64 (fr : Int), .int .i64 (fa : Int)] 25 (0, 0))) := hide (by rw [hw]; exact hset2 _ _ HF.out)
        refine one_store W7 (i := 12) (by kernel_rfl) rfl rfl rfl (by rw [hw]; exact st1 rfl (by simp (disch := first | decide | omega | (simp only [pe_size]; omega)) only [List.getElem_toArray, List.getElem_cons_succ, List.getElem_cons_zero, List.map_toArray, List.map_cons, List.map_nil, execOp, pe_ne, pe_same, h0, h3]) (by simp (disch := first | decide | omega | (simp only [pe_size]; omega)) only [List.getElem_toArray, List.getElem_cons_succ, List.getElem_cons_zero, List.map_toArray, List.map_cons, List.map_nil, execOp, pe_ne, pe_same, h0, h3]) f0 f1 fz0 fz1) (HS7.out) (fun hHeld => ?_)
        clear hw f0 f1 fz0 fz1
        refine wU 13 6 (.bool bb) (hQ := fun _ _ _ h => by cases h.1) (y := fun w1 hSw => by simp (disch := first | decide | omega | (simp only [pe_size]; omega)) only [List.getElem_toArray, List.getElem_cons_succ, List.getElem_cons_zero, List.map_toArray, List.map_cons, List.map_nil, execOp, pe_ne, pe_same, h0, h3]; kernel_rfl) (s := hHeld) (h := ?_)
        refine wU 14 14 (.int .i64 0) (hQ := fun _ _ _ h => by cases h.1) (y := fun w1 hSw => by simp (disch := first | decide | omega | (simp only [pe_size]; omega)) only [List.getElem_toArray, List.getElem_cons_succ, List.getElem_cons_zero, List.map_toArray, List.map_cons, List.map_nil, execOp, pe_ne, pe_same, h0, h3]; kernel_rfl) (s := hHeld) (h := ?_)
        refine wpAnyH_done (by kernel_rfl) ?_ _
        exact ⟨rfl, _, _, _, _, _, (putAll_perm (perm_at (L := [(163, .slice (some ⟨W1.heap.size, 0, none⟩) 0 0), (164, .slice p l.length cap), (165, vB), (166, .agg #[.int .i64 ek, .int .i64 eo, .int .i64 en, .int .i64 el, .int .i64 ej, .int .i64 eb, .int .i64 ei, .int .i64 ec, .int .i64 es, .int .i64 er, .int .u64 ew, .string ex, .slice q et.length cq]), (167, .slice (some ⟨W2.heap.size, 0, none⟩) 1 1), (168, vD), (169, .tuple #[.agg #[.int .i64 (fr : Int), .int .i64 (fa : Int)], .bool bb, .int .i64 0]), (162, .tuple #[.agg #[.int .i64 (fr : Int), .int .i64 (fa : Int)], .bool bb, .int .i64 0]), (170, .agg #[.int .i64 (fr : Int), .int .i64 (fa : Int)]), (171, .bool bb), (172, .int .i64 0), (13, .pointer (some ⟨W0.heap.size, 0, none⟩)), (6, .bool bb), (14, .int .i64 0)]) [1, 3, 11, 0, 4, 2, 5, 6, 7, 8, 9, 10, 12, 13] (by show (List.range 14).Perm [1, 3, 11, 0, 4, 2, 5, 6, 7, 8, 9, 10, 12, 13]; decide)) (by show ([163, 164, 165, 166, 167, 168, 169, 162, 170, 171, 172, 13, 6, 14] : List Nat).Nodup; decide) a).symm, HZ, HS7⟩
    · clear hHeld
      obtain ⟨W2, hw⟩ : ∃ V, V = W1.alloc (.cells #[.int .i64 ek, .int .i64 eo, .int .i64 en, .int .i64 el, .int .i64 ej, .int .i64 eb, .int .i64 ei, .int .i64 ec, .int .i64 es, .int .i64 er, .int .u64 ew, .string ex, .slice q et.length cq] 43) := ⟨_, rfl⟩
      refine sV 167 (.slice (some ⟨W1.heap.size, 0, none⟩) 1 1) W2 rfl rfl (by rw [hw]; exact bs1 rfl (by simp (disch := first | decide | omega | (simp only [pe_size]; omega)) only [List.getElem_toArray, List.getElem_cons_succ, List.getElem_cons_zero, List.map_toArray, List.map_cons, List.map_nil, execOp, pe_ne, pe_same, h0, h3]) _) ?_
      have hb : Below W1.heap.size W1 W2 := by rw [hw]; exact below_alloc _ _
      have HS2 : Hid (Below wr.heap.size wr W2) := hide (HS1.out.trans (hb.mono HS1.out.size))
      replace HF := hide ((hb.block _ (lt_of_block HF.out)).trans HF.out)
      have HC : Hid (W2.heap[W1.heap.size]? = some (.cells #[.int .i64 ek, .int .i64 eo, .int .i64 en, .int .i64 el, .int .i64 ej, .int .i64 eb, .int .i64 ei, .int .i64 ec, .int .i64 es, .int .i64 er, .int .u64 ew, .string ex, .slice q et.length cq] 43 (0, 0))) := hide (by rw [hw]; exact heap_alloc_new _ _)
      clear hw hb
      refine hK.out _ _ (HS2.out) (fun hHeld => ?_)
      clear hK K
      refine wpAnyH_ready (rs := [0]) (by kernel_rfl) (by simp) ?_
      refine AllReadyH.cons rfl (fun K hK => ?_) AllReadyH.nil
      clear hHeld
      obtain ⟨W3, hw⟩ : ∃ V, V = W2.alloc (.cells #[] 43) := ⟨_, rfl⟩
      refine sV 163 (.slice (some ⟨W2.heap.size, 0, none⟩) 0 0) W3 rfl rfl (by rw [hw]; kernel_rfl) ?_
      have hb : Below W2.heap.size W2 W3 := by rw [hw]; exact below_alloc _ _
      have HS3 : Hid (Below wr.heap.size wr W3) := hide (HS2.out.trans (hb.mono HS2.out.size))
      have HAC : Hid (W1.heap.size ≠ W2.heap.size) := hide (by have h1 : W1.heap.size < W2.heap.size := lt_of_block HC.out; omega)
      replace HC := hide ((hb.block _ (lt_of_block HC.out)).trans HC.out)
      replace HF := hide ((hb.block _ (lt_of_block HF.out)).trans HF.out)
      have HA : Hid (W3.ownsRow wr.heap.size 43 13 (.slice (some ⟨W2.heap.size, 0, none⟩) 0 0) 0 []) := hide (by rw [hw]; exact World.ownsRow_made W2 #[] 0 HS2.out.size (by decide) rfl)
      clear hw hb
      refine hK.out _ _ (HS3.out) (fun hHeld => ?_)
      clear hK K
      refine wpAnyH_ready (rs := [2]) (by kernel_rfl) (by simp) ?_
      refine AllReadyH.cons rfl (fun K hK => ?_) AllReadyH.nil
      clear hHeld
      obtain ⟨vB, W4, hrun, hown, hgrow, hbB, aB, cB, hvB⟩ := run_srv HA.out (HSrc1.out W3 HS3.out) (HT1.out W3 HS3.out) (by first | omega | (simp only [List.length_singleton]; omega)) (by first | omega | (simp only [List.length_singleton]; omega)) HS3.out.size
      have HS4 : Hid (Below wr.heap.size wr W4) := hide (HS3.out.trans hbB)
      have HRun := hide hrun
      have HB := hide hown
      replace HC := hide ((hgrow.block _ (lt_of_block HC.out) (fun e => HAC.out (Option.some.inj e))).trans HC.out)
      replace HF := hide ((hgrow.block _ (lt_of_block HF.out) (fun e => by obtain ⟨c, hc⟩ := own_type HA.out _ e.symm; rw [HF.out] at hc; injection hc with hc; injection hc with _ hc; exact absurd hc (by decide))).trans HF.out)
      clear hrun hown hgrow hbB hvB
      refine sA 165 (.tmp 163) (.tmp 164) 22 rfl rfl rfl (by simp (disch := first | decide | omega | (simp only [pe_size]; omega)) only [List.getElem_toArray, List.getElem_cons_succ, List.getElem_cons_zero, List.map_toArray, List.map_cons, List.map_nil, execOp, pe_ne, pe_same, h0, h3]) (by simp (disch := first | decide | omega | (simp only [pe_size]; omega)) only [List.getElem_toArray, List.getElem_cons_succ, List.getElem_cons_zero, List.map_toArray, List.map_cons, List.map_nil, execOp, pe_ne, pe_same, h0, h3]) HRun.out ?_
      clear HRun
      refine hK.out _ _ (HS4.out) (fun hHeld => ?_)
      clear hK K
      refine wpAnyH_ready (rs := [5]) (by kernel_rfl) (by simp) ?_
      refine AllReadyH.cons rfl (fun K hK => ?_) AllReadyH.nil
      clear hHeld
      obtain ⟨vD, W5, hrun, hown, hgrow, hbB, aD, cD, hvD⟩ := run_srv HB.out (Srv.one (x := ⟨ek, eo, en, el, ej, eb, ei, ec, es, er, ew, ex, et⟩) (t := .slice q et.length cq) HC.out) (HTx.out W4 HS4.out) (by first | omega | (simp only [List.length_singleton]; omega)) (by first | omega | (simp only [List.length_singleton]; omega)) HS4.out.size
      have HS5 : Hid (Below wr.heap.size wr W5) := hide (HS4.out.trans hbB)
      have HRun := hide hrun
      have HD := hide hown
      replace HF := hide ((hgrow.block _ (lt_of_block HF.out) (fun e => by obtain ⟨c, hc⟩ := own_type HB.out _ e.symm; rw [HF.out] at hc; injection hc with hc; injection hc with _ hc; exact absurd hc (by decide))).trans HF.out)
      clear hrun hown hgrow hbB hvD
      refine sA 168 (.tmp 165) (.tmp 167) 22 rfl rfl rfl (by simp (disch := first | decide | omega | (simp only [pe_size]; omega)) only [List.getElem_toArray, List.getElem_cons_succ, List.getElem_cons_zero, List.map_toArray, List.map_cons, List.map_nil, execOp, pe_ne, pe_same, h0, h3]) (by simp (disch := first | decide | omega | (simp only [pe_size]; omega)) only [List.getElem_toArray, List.getElem_cons_succ, List.getElem_cons_zero, List.map_toArray, List.map_cons, List.map_nil, execOp, pe_ne, pe_same, h0, h3]) HRun.out ?_
      clear HRun
      refine hK.out _ _ (HS5.out) (fun hHeld => ?_)
      clear hK K
      refine wpAnyH_ready (rs := [6]) (by kernel_rfl) (by simp) ?_
      refine AllReadyH.cons rfl (fun K hK => ?_) AllReadyH.nil
      clear hHeld
      refine sC 169 (.tuple #[.agg #[.int .i64 (fr : Int), .int .i64 (fa : Int)], .bool bb, .int .i64 0]) rfl rfl (by simp (disch := first | decide | omega | (simp only [pe_size]; omega)) only [List.getElem_toArray, List.getElem_cons_succ, List.getElem_cons_zero, List.map_toArray, List.map_cons, List.map_nil, execOp, pe_ne, pe_same, h0, h3, resolve]; kernel_rfl) (HA2.out _ _ (HFin.out _ _ HD.out HS5.out)) ?_
      rintro W6 hb
      have HS6 : Hid (Below wr.heap.size wr W6) := hide (HS5.out.trans (hb.mono HS5.out.size))
      replace HD := hide (own_keep HD.out fun k e => hb.block k (HD.out.lt k e).2)
      replace HF := hide ((hb.block _ (lt_of_block HF.out)).trans HF.out)
      clear hb
      refine hK.out _ _ (HS6.out) (fun hHeld => ?_)
      clear hK K
      refine wU 7 162 (.tuple #[.agg #[.int .i64 (fr : Int), .int .i64 (fa : Int)], .bool bb, .int .i64 0]) (hQ := fun _ _ _ h => by cases h.1) (y := fun w1 hSw => by simp (disch := first | decide | omega | (simp only [pe_size]; omega)) only [List.getElem_toArray, List.getElem_cons_succ, List.getElem_cons_zero, List.map_toArray, List.map_cons, List.map_nil, execOp, pe_ne, pe_same, h0, h3]; kernel_rfl) (s := hHeld) (h := ?_)
      refine wU 8 170 (.agg #[.int .i64 (fr : Int), .int .i64 (fa : Int)]) (hQ := fun _ _ _ h => by cases h.1) (y := fun w1 hSw => by simp (disch := first | decide | omega | (simp only [pe_size]; omega)) only [List.getElem_toArray, List.getElem_cons_succ, List.getElem_cons_zero, List.map_toArray, List.map_cons, List.map_nil, execOp, pe_ne, pe_same, h0, h3]; kernel_rfl) (s := hHeld) (h := ?_)
      refine wU 9 171 (.bool bb) (hQ := fun _ _ _ h => by cases h.1) (y := fun w1 hSw => by simp (disch := first | decide | omega | (simp only [pe_size]; omega)) only [List.getElem_toArray, List.getElem_cons_succ, List.getElem_cons_zero, List.map_toArray, List.map_cons, List.map_nil, execOp, pe_ne, pe_same, h0, h3]; kernel_rfl) (s := hHeld) (h := ?_)
      refine wU 10 172 (.int .i64 0) (hQ := fun _ _ _ h => by cases h.1) (y := fun w1 hSw => by simp (disch := first | decide | omega | (simp only [pe_size]; omega)) only [List.getElem_toArray, List.getElem_cons_succ, List.getElem_cons_zero, List.map_toArray, List.map_cons, List.map_nil, execOp, pe_ne, pe_same, h0, h3]; kernel_rfl) (s := hHeld) (h := ?_)
      clear hHeld
      obtain ⟨f0, f1, fz⟩ := two_of HF.out
      have fz0 := fz 0
      have fz1 := fz 1
      clear fz
      obtain ⟨W7, hw⟩ : ∃ V, V = (W6.setCell ⟨W0.heap.size, 0, none⟩ (.int .i64 (fr : Int))).setCell ⟨W0.heap.size, 1, none⟩ (.int .i64 (fa : Int)) := ⟨_, rfl⟩
      have HS7 : Hid (Below wr.heap.size wr W7) := hide (by rw [hw]; exact (HS6.out.setCell (p := ⟨W0.heap.size, 0, none⟩) HS0.out.size _).setCell (p := ⟨W0.heap.size, 1, none⟩) HS0.out.size _)
      have HZ : Hid (W7.heap[W0.heap.size]? = some (.cells #[.int .i64 (fr : Int), .int .i64 (fa : Int)] 25 (0, 0))) := hide (by rw [hw]; exact hset2 _ _ HF.out)
      refine one_store W7 (i := 12) (by kernel_rfl) rfl rfl rfl (by rw [hw]; exact st1 rfl (by simp (disch := first | decide | omega | (simp only [pe_size]; omega)) only [List.getElem_toArray, List.getElem_cons_succ, List.getElem_cons_zero, List.map_toArray, List.map_cons, List.map_nil, execOp, pe_ne, pe_same, h0, h3]) (by simp (disch := first | decide | omega | (simp only [pe_size]; omega)) only [List.getElem_toArray, List.getElem_cons_succ, List.getElem_cons_zero, List.map_toArray, List.map_cons, List.map_nil, execOp, pe_ne, pe_same, h0, h3]) f0 f1 fz0 fz1) (HS7.out) (fun hHeld => ?_)
      clear hw f0 f1 fz0 fz1
      refine wU 13 6 (.bool bb) (hQ := fun _ _ _ h => by cases h.1) (y := fun w1 hSw => by simp (disch := first | decide | omega | (simp only [pe_size]; omega)) only [List.getElem_toArray, List.getElem_cons_succ, List.getElem_cons_zero, List.map_toArray, List.map_cons, List.map_nil, execOp, pe_ne, pe_same, h0, h3]; kernel_rfl) (s := hHeld) (h := ?_)
      refine wU 14 14 (.int .i64 0) (hQ := fun _ _ _ h => by cases h.1) (y := fun w1 hSw => by simp (disch := first | decide | omega | (simp only [pe_size]; omega)) only [List.getElem_toArray, List.getElem_cons_succ, List.getElem_cons_zero, List.map_toArray, List.map_cons, List.map_nil, execOp, pe_ne, pe_same, h0, h3]; kernel_rfl) (s := hHeld) (h := ?_)
      refine wpAnyH_done (by kernel_rfl) ?_ _
      exact ⟨rfl, _, _, _, _, _, (putAll_perm (perm_at (L := [(163, .slice (some ⟨W2.heap.size, 0, none⟩) 0 0), (164, .slice p l.length cap), (165, vB), (166, .agg #[.int .i64 ek, .int .i64 eo, .int .i64 en, .int .i64 el, .int .i64 ej, .int .i64 eb, .int .i64 ei, .int .i64 ec, .int .i64 es, .int .i64 er, .int .u64 ew, .string ex, .slice q et.length cq]), (167, .slice (some ⟨W1.heap.size, 0, none⟩) 1 1), (168, vD), (169, .tuple #[.agg #[.int .i64 (fr : Int), .int .i64 (fa : Int)], .bool bb, .int .i64 0]), (162, .tuple #[.agg #[.int .i64 (fr : Int), .int .i64 (fa : Int)], .bool bb, .int .i64 0]), (170, .agg #[.int .i64 (fr : Int), .int .i64 (fa : Int)]), (171, .bool bb), (172, .int .i64 0), (13, .pointer (some ⟨W0.heap.size, 0, none⟩)), (6, .bool bb), (14, .int .i64 0)]) [1, 3, 11, 4, 0, 2, 5, 6, 7, 8, 9, 10, 12, 13] (by show (List.range 14).Perm [1, 3, 11, 4, 0, 2, 5, 6, 7, 8, 9, 10, 12, 13]; decide)) (by show ([163, 164, 165, 166, 167, 168, 169, 162, 170, 171, 172, 13, 6, 14] : List Nat).Nodup; decide) a).symm, HZ, HS7⟩

end Go.Proofs.Ytjfgmdiafhkbgaa
