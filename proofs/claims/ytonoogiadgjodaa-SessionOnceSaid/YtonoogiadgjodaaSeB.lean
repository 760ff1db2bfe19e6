import Derived.Test.YtonoogiadgjodaaSeA
namespace Go.Proofs.Ytonoogiadgjodaa
open Go.RowKit

set_option maxHeartbeats 1000000 in
theorem begin_any {w : World} {b : Nat} {c : Cl} (h : Cb w b c) (m : Sm) :
    Calls Try.prog 52 #[.pointer (some ⟨b, 0, none⟩), .agg (smC m)] w fun e w' => e = .returned (.tuple #[]) ∧ Cb w' b { c with m := m, ti := 0 } ∧ On b w w' := by
  unfold smC
  have c1 := h.c1
  have c2 := h.c2
  have c3 := h.c3
  have c4 := h.c4
  have c5 := h.c5
  have c6 := h.c6
  have c7 := h.c7
  have c8 := h.c8
  have c9 := h.c9
  have c10 := h.c10
  have c11 := h.c11
  have c12 := h.c12
  have z := h.z
  have hl := h.lt
  have HH := hide h
  clear h
  go_enter Try.func52, Try.ntmps52
  go_wp2
  go_end0
  exact ⟨rfl, ((HH.out.putM m).ti 0).alloc _, (((On.refl b w).putM 2 m).set 1 _).alloc _⟩
set_option maxHeartbeats 1000000 in
theorem end_any {w : World} {b : Nat} {c : Cl} (h : Cb w b c) :
    Calls Try.prog 54 #[.pointer (some ⟨b, 0, none⟩)] w fun e w' => e = .returned (.tuple #[]) ∧ Cb w' b { c with m := zS 0, ti := 0 } ∧ On b w w' := by
  have HX := hide (begin_any h (zS 0))
  clear h
  go_enter Try.func54, Try.ntmps54
  go_wp2_with fail
  refine HX.out.mono ?_
  rintro e w1 ⟨rfl, h1, h2⟩
  have H1 := hide h1
  have H2 := hide h2
  clear h1 h2 HX
  go_wp2_with fail
  go_end0
  exact ⟨rfl, H1.out, H2.out⟩
structure CR where
  e : Int
  c : Cl
def Cl.hello (c : Cl) : CR := if c.m.k = 0 then ⟨0, { c with se := 0, m := zS 1, ti := 0 }⟩ else ⟨131, c⟩
theorem Cl.hello_ok {c : Cl} (h : c.ok) : c.hello.c.ok := by
  unfold Cl.hello; split
  · exact ⟨h.r1, h.r2, Int.le_refl _, by have := h.r1; show (0 : Int) ≤ c.rs; omega, Int.le_refl _, by show (0 : Int) ≤ _; decide, h.g0, h.g1, h.l0, h.l1, .inl ⟨.inr rfl, rfl⟩⟩
  · exact h
set_option maxHeartbeats 1000000 in
theorem hello_any {w : World} {b : Nat} {c : Cl} (h : Cb w b c) :
    Calls Try.prog 21 #[.pointer (some ⟨b, 0, none⟩)] w fun e w' => e = .returned (.int .i64 c.hello.e) ∧ Cb w' b c.hello.c ∧ On b w w' := by
  have HB := hide (busy_any h)
  have HH := hide h
  have c13 := h.c13
  have z13 := h.z 13
  unfold Cl.hello
  clear h
  by_cases hk : c.m.k = 0
  · rw [if_pos hk]
    have hb : (c.m.k != 0) = false := by rw [hk]; rfl
    rw [hb] at HB
    have HK := hide hk
    have HX := hide (begin_any (HH.out.se 0) (zS 1))
    have HO := hide ((On.refl b w).set 13 (.int .i64 0))
    clear hk hb
    go_enter Try.func21, Try.ntmps21
    go_wp2_with fail
    refine HB.out.mono ?_
    rintro e w1 ⟨rfl, rfl⟩
    go_wp2_with fail
    refine HX.out.mono ?_
    rintro e w2 ⟨rfl, h1, h2⟩
    have H1 := hide h1
    have H2 := hide (HO.out.trans h2)
    clear h1 h2 HX HO
    go_wp2_with fail
    go_ret
    exact ⟨rfl, H1.out, H2.out⟩
  · rw [if_neg hk]
    have hb : (c.m.k != 0) = true := by simpa using hk
    rw [hb] at HB
    clear hk hb
    go_enter Try.func21, Try.ntmps21
    go_wp2_with fail
    refine HB.out.mono ?_
    rintro e w1 ⟨rfl, rfl⟩
    go_wp2_with fail
    go_ret
    exact ⟨rfl, HH.out, On.refl _ _⟩
set_option maxHeartbeats 1000000 in
theorem cclone_any {w : World} {b : Nat} {c : Cl} (h : Cb w b c) :
    Calls Try.prog 11 #[.pointer (some ⟨b, 0, none⟩)] w fun e w' => e = .returned (.pointer (some ⟨w.heap.size, 0, none⟩)) ∧ Cb w' w.heap.size c ∧ Below w.heap.size w w' := by
  have c0 := h.c0
  have c1 := h.c1
  have c2 := h.c2
  have c3 := h.c3
  have c4 := h.c4
  have c5 := h.c5
  have c6 := h.c6
  have c7 := h.c7
  have c8 := h.c8
  have c9 := h.c9
  have c10 := h.c10
  have c11 := h.c11
  have c12 := h.c12
  have c13 := h.c13
  have c14 := h.c14
  have c15 := h.c15
  clear h
  go_enter Try.func11, Try.ntmps11
  go_wp2
  go_ret
  exact ⟨rfl, heap_alloc_new w _, below_alloc w _⟩
structure DR where
  m : Sm
  is : Bool
  c : Cl
def Cl.due (c : Cl) : DR := if c.m.k = 0 then ⟨zS 0, false, c⟩ else if 0 < c.ti then ⟨zS 0, false, c⟩ else ⟨c.m, true, { c with ti := c.rs }⟩
theorem Cl.due_ok {c : Cl} (h : c.ok) : c.due.c.ok := by
  unfold Cl.due; split
  · exact h
  · split
    · exact h
    · exact ⟨h.r1, h.r2, by have := h.r1; show 0 ≤ c.rs; omega, Int.le_refl _, h.s0, h.s1, h.g0, h.g1, h.l0, h.l1, h.k⟩
theorem results_ct {fn : Func} {p t : Tmp} {ty : TypeId} (h : fn.results = #[.cell p ty, .tmp t]) (tmps : Array Value) (P : Program) (w : World) :
    (results fn tmps).run P w = ((asAddr (tmps.getD p undef)).run P w).andThen fun a w₁ => ((loadVar ty a).run P w₁).andThen fun v w₂ => .ok (.tuple #[v, tmps.getD t undef]) w₂ := by
  simp only [results, h]
  simp [Sem.run_bind, Result.andThen]
set_option maxHeartbeats 1000000 in
set_option maxRecDepth 8000 in
theorem due_any {w : World} {b : Nat} {c : Cl} (h : Cb w b c) :
    Calls Try.prog 24 #[.pointer (some ⟨b, 0, none⟩)] w fun e w' => e = .returned (.tuple #[.agg (smC c.due.m), .bool c.due.is]) ∧ Cb w' b c.due.c ∧ On b w w' := by
  have hl := h.lt
  have HB := hide (busy_any (h.alloc (.cells #[.int .i64 0, .int .i64 0, .int .i64 0, .int .i64 0, .int .i64 0, .int .i64 0, .int .i64 0, .int .i64 0, .int .u64 0, .string ⟨#[]⟩, .string ⟨#[]⟩] 36)))
  have HH := hide h
  unfold Cl.due
  by_cases hk : c.m.k = 0
  · rw [if_pos hk]
    have hb : (c.m.k != 0) = false := by rw [hk]; rfl
    rw [hb] at HB
    clear hk hb h
    go_enter Try.func24, Try.ntmps24
    go_wp2_with fail
    refine HB.out.mono ?_
    rintro e w1 ⟨rfl, rfl⟩
    go_wp2_with fail
    refine bodyPost_ret (by rw [results_ct (fn := Try.f24) rfl]; go_simp; rfl) rfl ?_
    exact ⟨rfl, HH.out.alloc _, (On.refl _ _).alloc _⟩
  rw [if_neg hk]
  have hb : (c.m.k != 0) = true := by simpa using hk
  rw [hb] at HB
  have c0 := h.c0
  have c1 := h.c1
  have z1 := h.z 1
  have h1 := h.ti c.rs
  have d2 := h1.c2
  have d3 := h1.c3
  have d4 := h1.c4
  have d5 := h1.c5
  have d6 := h1.c6
  have d7 := h1.c7
  have d8 := h1.c8
  have d9 := h1.c9
  have d10 := h1.c10
  have d11 := h1.c11
  have d12 := h1.c12
  clear hk hb h h1
  by_cases ht : 0 < c.ti
  · rw [if_pos ht]
    go_enter Try.func24, Try.ntmps24
    go_wp2_with fail
    refine HB.out.mono ?_
    rintro e w1 ⟨rfl, rfl⟩
    go_wp2_with fail
    refine bodyPost_ret (by rw [results_ct (fn := Try.f24) rfl]; go_simp; rfl) rfl ?_
    exact ⟨rfl, HH.out.alloc _, (On.refl _ _).alloc _⟩
  · rw [if_neg ht]
    go_enter Try.func24, Try.ntmps24
    go_wp2_with fail
    refine HB.out.mono ?_
    rintro e w1 ⟨rfl, rfl⟩
    go_wp2_with fail
    refine bodyPost_ret (by rw [results_ct (fn := Try.f24) rfl]; go_simp; rfl) rfl ?_
    exact ⟨rfl, (HH.out.ti _).alloc _, ((On.refl _ _).set 1 _).alloc _⟩
end Go.Proofs.Ytonoogiadgjodaa
