import Derived.Test.YtpmjhndkcdfpfaaBdT
namespace Go.Proofs.Ytpmjhndkcdfpfaa
open Go.RowKit

theorem Cm.put1 {T b : Nat} {w : World} {c : Bc} (h : Cm T w b c) (v : Int) : Cm T (w.setCell ⟨b, 1, none⟩ (.int .i64 v)) b ⟨c.blk, v, c.res⟩ := heap_set_self w b 1 _ _ _ _ h
theorem Cm.put2 {T b : Nat} {w : World} {c : Bc} (h : Cm T w b c) (v : Int) : Cm T (w.setCell ⟨b, 2, none⟩ (.int .i64 v)) b ⟨c.blk, c.last, v⟩ := heap_set_self w b 2 _ _ _ _ h
theorem Cm.drewN {T b : Nat} {w : World} {c : Bc} (h : Cm T w b c) (n : Nat) : Cm T (w.drewN n) b c := h
theorem On.refl (b : Nat) (w : World) : On b w w := ⟨rfl, rfl, rfl, Nat.le_refl _, fun _ _ _ => rfl⟩
theorem On.set {b : Nat} {w w' : World} (h : On b w w') (o : Nat) (v : Value) : On b w (w'.setCell ⟨b, o, none⟩ v) :=
  ⟨h.os, h.tape, h.output, by rw [setCell_size]; exact h.size, fun k hk hn => (Below.heap_setCell _ _ _ k hn).trans (h.block k hk hn)⟩
theorem On.drewN {b : Nat} {w w' : World} (h : On b w w') (n : Nat) : On b w (w'.drewN n) := ⟨h.os, h.tape, h.output, h.size, h.block⟩
set_option maxHeartbeats 1000000 in
theorem rcopy_any {w : World} {b : Nat} {c : Bc} (h : Cm 42 w b c) :
    Calls Try.prog 14 #[.pointer (some ⟨b, 0, none⟩)] w fun e w' => e = .returned (.pointer (some ⟨w.heap.size, 0, none⟩)) ∧ Cm 42 w' w.heap.size c ∧ Below w.heap.size w w' := by
  have c0 := h.c0
  have c1 := h.c1
  have c2 := h.c2
  go_enter Try.func14, Try.ntmps14
  go_wp2
  go_ret
  exact ⟨rfl, heap_alloc_new w _, (Below.refl _ w).alloc (Nat.le_refl _) _⟩
set_option maxHeartbeats 1000000 in
set_option maxRecDepth 8000 in
theorem rnext_any {w : World} {b : Nat} {c : Bc} (hc : c.ok) (h : Cm 42 w b c) :
    Calls Try.prog 12 #[.pointer (some ⟨b, 0, none⟩)] w (XPost 42 b w c) := by
  have HC := hide h
  have c1 := h.c1
  have z1 := h.z 1
  obtain ⟨k1, k2, k3, k4, k5⟩ := hc
  by_cases h0 : c.last = 1099511627776
  · have HE := hide (Bc.next_end h0)
    clear h
    go_enter Try.func12, Try.ntmps12
    go_wp2
    go_ret3
    unfold XPost
    rw [HE.out]
    exact ⟨rfl, HC.out, On.refl _ _⟩
  · have A1 := h.put1 (c.last + 1)
    have d1 := A1.c1
    have d2 := A1.c2
    have d0 := A1.c0
    have dz := A1.z 2
    have HA := hide A1
    have HO := hide ((On.refl b w).set 1 (.int .i64 (c.last + 1)))
    clear h A1
    simp only at d1 d2 d0
    by_cases h1 : c.last + 1 ≤ c.res
    · have HE := hide (Bc.next_in h0 h1)
      have hd : decide (c.last + 1 ≤ c.res) = true := by simpa using h1
      go_enter Try.func12, Try.ntmps12
      go_wp2
      generalize w.setCell ⟨b, 1, none⟩ (.int .i64 (c.last + 1)) = W1 at *
      go_quiet (fail)
      go_wp2
      go_ret3
      unfold XPost
      rw [HE.out]
      exact ⟨rfl, HA.out.drewN _, HO.out.drewN _⟩
    · have HE := hide (Bc.next_up h0 h1)
      have hd : decide (c.last + 1 ≤ c.res) = false := by simpa using h1
      go_enter Try.func12, Try.ntmps12
      go_wp2
      generalize w.setCell ⟨b, 1, none⟩ (.int .i64 (c.last + 1)) = W1 at *
      go_quiet (fail)
      go_wp2
      go_region
      obtain ⟨u, hu⟩ : ∃ u, up c.res c.blk = u := ⟨_, rfl⟩
      have hup : (if 1099511627776 < c.res + c.blk then 1099511627776 else c.res + c.blk) = u := hu
      rw [hup]
      have HU := hide hu
      clear hu hup
      generalize nq + 1 = n3
      have A3 := (HA.out.drewN n3).put2 u
      have HA3 := hide A3
      have HO3 := hide ((HO.out.drewN n3).set 2 (.int .i64 u))
      have r1 := A3.c1
      have r2 := A3.c2
      clear A3 HA HO d1 d2 d0 dz
      generalize (W1.drewN n3).setCell ⟨b, 2, none⟩ (.int .i64 u) = W3 at *
      simp only at r1 r2
      go_wp2
      go_quiet (fail)
      go_wp2
      go_ret3
      unfold XPost
      rw [HE.out, HU.out]
      exact ⟨rfl, HA3.out.drewN _, HO3.out.drewN _⟩
end Go.Proofs.Ytpmjhndkcdfpfaa
