import Derived.Test.YtpmjhndkcdfpfaaBdA
namespace Go.Proofs.Ytpmjhndkcdfpfaa
open Go.RowKit

theorem heap_set_self (w : World) (g o : Nat) (v : Value) (cur : Array Value) (t : TypeId) (fr : Nat × Nat) (h : w.heap[g]? = some (.cells cur t fr)) : (w.setCell ⟨g, o, none⟩ v).heap[g]? = some (.cells (cur.setIfInBounds o v) t fr) := by
  have hlt := lt_of_block h
  have h' : w.heap[g] = .cells cur t fr := by simpa [Array.getElem?_eq_getElem hlt] using h
  show (w.heap.modify g _)[g]? = _
  rw [Array.getElem?_eq_getElem (by simpa using hlt), Array.getElem_modify_self, h']
  rfl
theorem setCell_size (w : World) (a : Addr) (v : Value) : (w.setCell a v).heap.size = w.heap.size := by simp [World.setCell]
/-- what Next's closure stands on: the counter, the two results -/
structure Gv (w : World) (b X Y Z : Nat) (c : Bc) (x y : Int) : Prop where
  cm : Cm 47 w b c
  hX : w.heap[X]? = some (.cells #[.pointer (some ⟨b, 0, none⟩)] 23 (0, 0))
  hY : w.heap[Y]? = some (.cells #[.int .i64 x] 3 (0, 0))
  hZ : w.heap[Z]? = some (.cells #[.int .i64 y] 3 (0, 0))
  bX : b < X
  XY : X < Y
  YZ : Y < Z
theorem Gv.put1 {w : World} {b X Y Z : Nat} {c : Bc} {x y : Int} (h : Gv w b X Y Z c x y) (v : Int) : Gv (w.setCell ⟨b, 1, none⟩ (.int .i64 v)) b X Y Z ⟨c.blk, v, c.res⟩ x y := by
  have h1 := h.bX; have h2 := h.XY; have h3 := h.YZ
  refine ⟨heap_set_self w b 1 _ _ _ _ h.cm, ?_, ?_, ?_, h1, h2, h3⟩
  · rw [Below.heap_setCell _ _ _ X (by show X ≠ b; omega)]; exact h.hX
  · rw [Below.heap_setCell _ _ _ Y (by show Y ≠ b; omega)]; exact h.hY
  · rw [Below.heap_setCell _ _ _ Z (by show Z ≠ b; omega)]; exact h.hZ
theorem Gv.put2 {w : World} {b X Y Z : Nat} {c : Bc} {x y : Int} (h : Gv w b X Y Z c x y) (v : Int) : Gv (w.setCell ⟨b, 2, none⟩ (.int .i64 v)) b X Y Z ⟨c.blk, c.last, v⟩ x y := by
  have h1 := h.bX; have h2 := h.XY; have h3 := h.YZ
  refine ⟨heap_set_self w b 2 _ _ _ _ h.cm, ?_, ?_, ?_, h1, h2, h3⟩
  · rw [Below.heap_setCell _ _ _ X (by show X ≠ b; omega)]; exact h.hX
  · rw [Below.heap_setCell _ _ _ Y (by show Y ≠ b; omega)]; exact h.hY
  · rw [Below.heap_setCell _ _ _ Z (by show Z ≠ b; omega)]; exact h.hZ
theorem Gv.putY {w : World} {b X Y Z : Nat} {c : Bc} {x y : Int} (h : Gv w b X Y Z c x y) (v : Int) : Gv (w.setCell ⟨Y, 0, none⟩ (.int .i64 v)) b X Y Z c v y := by
  have h1 := h.bX; have h2 := h.XY; have h3 := h.YZ
  refine ⟨?_, ?_, heap_set_self w Y 0 _ _ _ _ h.hY, ?_, h1, h2, h3⟩
  · exact (Below.heap_setCell _ _ _ b (by show b ≠ Y; omega)).trans h.cm
  · rw [Below.heap_setCell _ _ _ X (by show X ≠ Y; omega)]; exact h.hX
  · rw [Below.heap_setCell _ _ _ Z (by show Z ≠ Y; omega)]; exact h.hZ
theorem Gv.putZ {w : World} {b X Y Z : Nat} {c : Bc} {x y : Int} (h : Gv w b X Y Z c x y) (v : Int) : Gv (w.setCell ⟨Z, 0, none⟩ (.int .i64 v)) b X Y Z c x v := by
  have h1 := h.bX; have h2 := h.XY; have h3 := h.YZ
  refine ⟨?_, ?_, ?_, heap_set_self w Z 0 _ _ _ _ h.hZ, h1, h2, h3⟩
  · exact (Below.heap_setCell _ _ _ b (by show b ≠ Z; omega)).trans h.cm
  · rw [Below.heap_setCell _ _ _ X (by show X ≠ Z; omega)]; exact h.hX
  · rw [Below.heap_setCell _ _ _ Y (by show Y ≠ Z; omega)]; exact h.hY
theorem Gv.cX {w : World} {b X Y Z : Nat} {c : Bc} {x y : Int} (h : Gv w b X Y Z c x y) : w.cell? ⟨X, 0, none⟩ = some (.pointer (some ⟨b, 0, none⟩)) := by have := h.hX; simp [World.cell?, this]
theorem Gv.cY {w : World} {b X Y Z : Nat} {c : Bc} {x y : Int} (h : Gv w b X Y Z c x y) : w.cell? ⟨Y, 0, none⟩ = some (.int .i64 x) := by have := h.hY; simp [World.cell?, this]
theorem Gv.cZ {w : World} {b X Y Z : Nat} {c : Bc} {x y : Int} (h : Gv w b X Y Z c x y) : w.cell? ⟨Z, 0, none⟩ = some (.int .i64 y) := by have := h.hZ; simp [World.cell?, this]
theorem Gv.zY {w : World} {b X Y Z : Nat} {c : Bc} {x y : Int} (h : Gv w b X Y Z c x y) : w.frozen? ⟨Y, 0, none⟩ = false := by have := h.hY; simp [World.frozen?, this]
theorem Gv.zZ {w : World} {b X Y Z : Nat} {c : Bc} {x y : Int} (h : Gv w b X Y Z c x y) : w.frozen? ⟨Z, 0, none⟩ = false := by have := h.hZ; simp [World.frozen?, this]
theorem Gv.drew {w : World} {b X Y Z : Nat} {c : Bc} {x y : Int} (h : Gv w b X Y Z c x y) : Gv w.drew b X Y Z c x y := ⟨h.cm, h.hX, h.hY, h.hZ, h.bX, h.XY, h.YZ⟩
/-- which blocks are turned -/
structure Go3 (b Y Z : Nat) (w w' : World) : Prop where
  os : w'.os = w.os
  tape : w'.tape = w.tape
  output : w'.output = w.output
  size : w'.heap.size = w.heap.size
  block : ∀ k, k ≠ b → k ≠ Y → k ≠ Z → w'.heap[k]? = w.heap[k]?
theorem Go3.refl (b Y Z : Nat) (w : World) : Go3 b Y Z w w := ⟨rfl, rfl, rfl, rfl, fun _ _ _ _ => rfl⟩
theorem Go3.set {b Y Z : Nat} {w w' : World} (h : Go3 b Y Z w w') {a : Addr} (v : Value) (ha : a.block = b ∨ a.block = Y ∨ a.block = Z) : Go3 b Y Z w (w'.setCell a v) :=
  ⟨h.os, h.tape, h.output, by rw [setCell_size]; exact h.size, fun k h1 h2 h3 => (Below.heap_setCell _ _ _ k (by omega)).trans (h.block k h1 h2 h3)⟩
theorem Go3.sb {b Y Z : Nat} {w w' : World} (h : Go3 b Y Z w w') (o : Nat) (v : Value) : Go3 b Y Z w (w'.setCell ⟨b, o, none⟩ v) := h.set v (.inl rfl)
theorem Go3.sY {b Y Z : Nat} {w w' : World} (h : Go3 b Y Z w w') (o : Nat) (v : Value) : Go3 b Y Z w (w'.setCell ⟨Y, o, none⟩ v) := h.set v (.inr (.inl rfl))
theorem Go3.sZ {b Y Z : Nat} {w w' : World} (h : Go3 b Y Z w w') (o : Nat) (v : Value) : Go3 b Y Z w (w'.setCell ⟨Z, o, none⟩ v) := h.set v (.inr (.inr rfl))
theorem Go3.drew {b Y Z : Nat} {w w' : World} (h : Go3 b Y Z w w') : Go3 b Y Z w w'.drew := ⟨h.os, h.tape, h.output, h.size, h.block⟩
theorem Go3.drewN {b Y Z : Nat} {w w' : World} (h : Go3 b Y Z w w') (n : Nat) : Go3 b Y Z w (w'.drewN n) := by
  obtain ⟨a, b, c, d, e⟩ := h
  exact ⟨a, b, c, d, e⟩
theorem Gv.drewN {w : World} {b X Y Z : Nat} {c : Bc} {x y : Int} (h : Gv w b X Y Z c x y) (n : Nat) : Gv (w.drewN n) b X Y Z c x y := ⟨h.cm, h.hX, h.hY, h.hZ, h.bX, h.XY, h.YZ⟩

set_option maxHeartbeats 1000000 in
set_option maxRecDepth 8000 in
theorem give_in {w : World} {b X Y Z : Nat} {c : Bc} (hc : c.ok) (h : Gv w b X Y Z c 0 0) (h1 : c.last + 1 ≤ c.res) :
    Calls Try.prog 17 #[.pointer (some ⟨X, 0, none⟩), .pointer (some ⟨Y, 0, none⟩), .pointer (some ⟨Z, 0, none⟩)] w fun e w' => e = .returned (.tuple #[]) ∧ Gv w' b X Y Z ⟨c.blk, c.last + 1, c.res⟩ (c.last + 1) 0 ∧ Go3 b Y Z w w' := by
  obtain ⟨k1, k2, k3, k4, k5⟩ := hc
  have HG := hide h
  have x0 := h.cX
  have y0 := h.cm.c1
  have z0 := h.cm.z 1
  have A1 := h.put1 (c.last + 1)
  have x1 := A1.cX
  have y1 := A1.cm.c1
  have z1 := A1.zY
  have yc1 := A1.cY
  have A2 := A1.putY (c.last + 1)
  have x2 := A2.cX
  have y2 := A2.cY
  have r2 := A2.cm.c2
  have HG2 := hide A2
  clear h A1 A2
  have hd : decide (c.res < c.last + 1) = false := by simp; omega
  go_enter Try.func17, Try.ntmps17
  go_wp2
  go_quiet (fail)
  go_wp2
  go_end0
  exact ⟨rfl, HG2.out.drewN _, (((Go3.refl b Y Z w).sb 1 _).sY 0 _).drewN _⟩
set_option maxHeartbeats 1000000 in
set_option maxRecDepth 8000 in
theorem give_up {w : World} {b X Y Z : Nat} {c : Bc} (hc : c.ok) (h : Gv w b X Y Z c 0 0) (h1 : ¬ c.last + 1 ≤ c.res) :
    Calls Try.prog 17 #[.pointer (some ⟨X, 0, none⟩), .pointer (some ⟨Y, 0, none⟩), .pointer (some ⟨Z, 0, none⟩)] w fun e w' => e = .returned (.tuple #[]) ∧ Gv w' b X Y Z ⟨c.blk, c.last + 1, up c.res c.blk⟩ (c.last + 1) (up c.res c.blk) ∧ Go3 b Y Z w w' := by
  obtain ⟨k1, k2, k3, k4, k5⟩ := hc
  have HG := hide h
  have x0 := h.cX
  have y0 := h.cm.c1
  have z0 := h.cm.z 1
  have A1 := h.put1 (c.last + 1)
  have x1 := A1.cX
  have y1 := A1.cm.c1
  have z1 := A1.zY
  have yc1 := A1.cY
  have A2 := A1.putY (c.last + 1)
  have HG2 := hide A2
  have HO2 : Hid (Go3 b Y Z w ((w.setCell ⟨b, 1, none⟩ (.int .i64 (c.last + 1))).setCell ⟨Y, 0, none⟩ (.int .i64 (c.last + 1)))) := hide ((((Go3.refl b Y Z w).sb 1 _).sY 0 _))
  have x2 := A2.cX
  have y2 := A2.cY
  have r2 := A2.cm.c2
  have b2 := A2.cm.c0
  have z2 := A2.cm.z 2
  clear h A1 A2
  have hd : decide (c.res < c.last + 1) = true := by simp; omega
  go_enter Try.func17, Try.ntmps17
  go_wp2
  go_quiet (fail)
  generalize (w.setCell ⟨b, 1, none⟩ (.int .i64 (c.last + 1))).setCell ⟨Y, 0, none⟩ (.int .i64 (c.last + 1)) = W2 at *
  go_wp2
  go_region
  obtain ⟨u, hu⟩ : ∃ u, up c.res c.blk = u := ⟨_, rfl⟩
  have hup : (if 1099511627776 < c.res + c.blk then 1099511627776 else c.res + c.blk) = u := hu
  rw [hup]
  have HU := hide hu
  clear hu hup
  generalize nq + 1 = n3
  have A3 := (HG2.out.drewN n3).put2 u
  have HG3 := hide A3
  have HO3 := hide ((HO2.out.drewN n3).sb 2 (.int .i64 u))
  have x3 := A3.cX
  have r3 := A3.cm.c2
  have z3 := A3.zZ
  have cz3 := A3.cZ
  clear A3 HG2 HO2 x2 y2 r2 b2 z2
  generalize (W2.drewN n3).setCell ⟨b, 2, none⟩ (.int .i64 u) = W3 at *
  go_wp2
  go_end0
  rw [HU.out]
  exact ⟨rfl, HG3.out.putZ u, HO3.out.sZ 0 _⟩
theorem give_any {w : World} {b X Y Z : Nat} {c : Bc} (hc : c.ok) (h : Gv w b X Y Z c 0 0) (h0 : c.last ≠ 1099511627776) :
    Calls Try.prog 17 #[.pointer (some ⟨X, 0, none⟩), .pointer (some ⟨Y, 0, none⟩), .pointer (some ⟨Z, 0, none⟩)] w fun e w' => e = .returned (.tuple #[]) ∧ Gv w' b X Y Z c.next.c c.next.badge c.next.reserve ∧ c.next.e = 0 ∧ Go3 b Y Z w w' := by
  by_cases h1 : c.last + 1 ≤ c.res
  · refine (give_in hc h h1).mono ?_
    rintro e w1 ⟨rfl, hG, h3⟩
    rw [Bc.next_in h0 h1]
    exact ⟨rfl, hG, rfl, h3⟩
  · refine (give_up hc h h1).mono ?_
    rintro e w1 ⟨rfl, hG, h3⟩
    rw [Bc.next_up h0 h1]
    exact ⟨rfl, hG, rfl, h3⟩
/-- what Next leaves -/
def XPost (T b : Nat) (w : World) (c : Bc) (e : Ending) (w' : World) : Prop :=
  e = .returned (.tuple #[.int .i64 c.next.badge, .int .i64 c.next.reserve, .int .i64 c.next.e]) ∧ Cm T w' b c.next.c ∧ On b w w'
theorem results_cct {fn : Func} {p q t : Tmp} {ty : TypeId} (h : fn.results = #[.cell p ty, .cell q ty, .tmp t]) (tmps : Array Value) (P : Program) (w : World) :
    (results fn tmps).run P w = ((asAddr (tmps.getD p undef)).run P w).andThen fun a w₁ => ((loadVar ty a).run P w₁).andThen fun v w₂ => ((asAddr (tmps.getD q undef)).run P w₂).andThen fun a2 w₃ => ((loadVar ty a2).run P w₃).andThen fun v2 w₄ => .ok (.tuple #[v, v2, tmps.getD t undef]) w₄ := by
  simp only [results, h]
  simp [Sem.run_bind, Result.andThen]
theorem On.alloc3 (b : Nat) (w : World) (o1 o2 o3 : Obj) : On b w (((w.alloc o1).alloc o2).alloc o3) := by
  have h := (((Below.refl _ w).alloc (Nat.le_refl _) o1).alloc (by rw [World.size_alloc]; omega) o2).alloc (by rw [World.size_alloc, World.size_alloc]; omega) o3
  exact On.of_below h
set_option maxHeartbeats 1000000 in
set_option maxRecDepth 8000 in
theorem next_any {w : World} {b : Nat} {c : Bc} (hc : c.ok) (h : Cm 47 w b c) :
    Calls Try.prog 11 #[.pointer (some ⟨b, 0, none⟩)] w (XPost 47 b w c) := by
  have hb := h.lt
  have G0 : Gv (((w.alloc (.cells #[.pointer (some ⟨b, 0, none⟩)] 23 (0, 0))).alloc (.cells #[.int .i64 0] 3 (0, 0))).alloc (.cells #[.int .i64 0] 3 (0, 0))) b w.heap.size (w.heap.size + 1) (w.heap.size + 1 + 1) c 0 0 := by
    have s1 := World.size_alloc w (.cells #[.pointer (some ⟨b, 0, none⟩)] 23 (0, 0))
    have s2 := World.size_alloc (w.alloc (.cells #[.pointer (some ⟨b, 0, none⟩)] 23 (0, 0))) (.cells #[.int .i64 0] 3 (0, 0))
    refine ⟨?_, ?_, ?_, ?_, hb, by omega, by omega⟩
    · unfold Cm
      rw [Below.heap_alloc _ _ _ (by omega), Below.heap_alloc _ _ _ (by omega), Below.heap_alloc _ _ _ hb]; exact h
    · rw [Below.heap_alloc _ _ _ (by omega), Below.heap_alloc _ _ _ (by omega)]; exact heap_alloc_new w _
    · rw [Below.heap_alloc _ _ _ (by omega), ← s1]; exact heap_alloc_new _ _
    · rw [show w.heap.size + 1 + 1 = ((w.alloc (.cells #[.pointer (some ⟨b, 0, none⟩)] 23 (0, 0))).alloc (.cells #[.int .i64 0] 3 (0, 0))).heap.size by omega]; exact heap_alloc_new _ _
  have HG := hide G0
  have HO := hide (On.alloc3 b w (.cells #[.pointer (some ⟨b, 0, none⟩)] 23 (0, 0)) (.cells #[.int .i64 0] 3 (0, 0)) (.cells #[.int .i64 0] 3 (0, 0)))
  have y0 := G0.cm.c1
  have x0 := G0.cX
  have HC := hide hc
  clear h G0 hc
  go_enter Try.func11, Try.ntmps11
  by_cases h0 : c.last = 1099511627776
  · go_wp2
    refine bodyPost_ret (by rw [results_cct rfl]; go_simp; rfl) rfl ?_
    unfold XPost
    rw [Bc.next_end h0]
    exact ⟨rfl, HG.out.cm, HO.out⟩
  · go_wp2_with fail
    generalize ((w.alloc (.cells #[.pointer (some ⟨b, 0, none⟩)] 23 (0, 0))).alloc (.cells #[.int .i64 0] 3 (0, 0))).alloc (.cells #[.int .i64 0] 3 (0, 0)) = W0 at *
    refine (give_any HC.out HG.out h0).mono ?_
    rintro e w1 ⟨rfl, hG, he, h3⟩
    have HX : Hid (∀ w', Gv w' b w.heap.size (w.heap.size + 1) (w.heap.size + 1 + 1) c.next.c c.next.badge c.next.reserve → Go3 b (w.heap.size + 1) (w.heap.size + 1 + 1) W0 w' → XPost 47 b w c (.returned (.tuple #[.int .i64 c.next.badge, .int .i64 c.next.reserve, .int .i64 0])) w') := hide fun w' hg ho => by
      have hs := HO.out.size
      refine ⟨by rw [he], hg.cm, ho.os.trans HO.out.os, ho.tape.trans HO.out.tape, ho.output.trans HO.out.output, by rw [ho.size]; exact hs, fun k hk hn => (ho.block k hn (by omega) (by omega)).trans (HO.out.block k hk hn)⟩
    generalize c.next.badge = x at *
    generalize c.next.reserve = y at *
    have HG1 := hide hG
    have H31 := hide h3
    have y1 := hG.cY
    have z1 := hG.cZ
    have fy := hG.zY
    have fz := hG.zZ
    have gy := (hG.putY x).cZ
    have gf := (hG.putY x).zZ
    have gy2 := (hG.putZ y).cY
    have gf2 := (hG.putZ y).zY
    have gx := ((hG.putY x).putZ y).cY
    have gy3 := ((hG.putY x).putZ y).cZ
    have gx4 := ((hG.putZ y).putY x).cY
    have gy4 := ((hG.putZ y).putY x).cZ
    clear hG h3 he HG HC HO y0 x0
    go_wp2
    go_region
    all_goals
      go_wp2
      refine bodyPost_ret (by rw [results_cct rfl]; go_simp; rfl) rfl ?_
      first
        | exact HX.out _ ((HG1.out.drew.putY x).putZ y) ((H31.out.drew.sY 0 _).sZ 0 _)
        | exact HX.out _ ((HG1.out.drew.putZ y).putY x) ((H31.out.drew.sZ 0 _).sY 0 _)
end Go.Proofs.Ytpmjhndkcdfpfaa
