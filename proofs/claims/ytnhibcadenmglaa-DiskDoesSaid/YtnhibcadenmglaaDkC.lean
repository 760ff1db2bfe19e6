import Derived.Test.YtnhibcadenmglaaDkB
namespace Go.Proofs.Ytnhibcadenmglaa
open Go.RowKit

theorem Try.infoU : (Try.prog.info? 5).map (·.size) = some 1 := by kernel_rfl

theorem setRow_far (w : World) (g k : Nat) (cs : Array Value) (h : k ≠ g) : (w.setRow g cs).heap[k]? = w.heap[k]? := setRow_other w g k cs h
theorem setRow_size (w : World) (g : Nat) (cs : Array Value) : (w.setRow g cs).heap.size = w.heap.size := by simp [World.setRow]

section
variable {base : Nat} {w : World} {b : Nat} {vs vr : Value} {d : DS}
theorem DkV.form (h : DkV base w b vs vr d) : ∃ g cap, vs = .slice (some ⟨g, 0, none⟩) d.S.length cap ∧ g < w.heap.size ∧ d.S.length ≤ cap ∧ cap ≤ 9223372036854775807 := by
  rcases own_form h.sec with ⟨_, hn⟩ | h1
  · have := h.ok.s0; omega
  · exact h1
end

set_option maxHeartbeats 400000 in
theorem lay_any {base : Nat} {w : World} {b : Nat} {vs vr : Value} {d : DS} (h : DkV base w b vs vr d) (k : Nat) (data : ByteArray) (hk : k < d.S.length) (hd : data.size ≤ 128) :
    Calls Try.prog 38 #[.pointer (some ⟨b, 0, none⟩), .int .i64 (k : Int), .string data] w fun e w' => e = .returned (.tuple #[]) ∧ DkV base w' b vs vr { d with S := layS d.S k data } ∧ Mv (Fd b vs vr) (Fd b vs vr) w w' := by
  obtain ⟨g, cap, hv, hg, hc, hcm⟩ := h.form
  have c0 := h.c0
  rw [hv] at c0
  have H := hide h
  have hS := h.ok.s1
  have hkl : decide ((k : Int) < (d.S.length : Int)) = true := by simp; omega
  obtain ⟨cur, hcur, hsz, hown⟩ := own_splice (hv ▸ h.sec)
  have HC := hide hcur
  have HO := hide hown
  have HZ := hide hsz
  clear hcur hown hsz h
  go_enter Try.func38, Try.ntmps38
  obtain ⟨X, hX⟩ : ∃ X, (splice cur.toList (k * 128) (sc data)).toArray = X := ⟨_, rfl⟩
  have hcp := run_copy_str (P := Try.prog) w 72 9 3 5 g (k * 128) 128 128 data cur 83 Try.underlying72 Try.infoU HC.out hd (by have := HZ.out; omega)
  rw [hX] at hcp
  have HX := hide hX
  clear hX
  go_wp2
  go_end0
  obtain rfl := HX.out
  have h := H.out
  have hgb : g ≠ b := fun e => h.a1 (by rw [hv, ← e]; rfl)
  have hgr : vr.ownBlock ≠ some g := h.a3 g (by rw [hv]; rfl)
  refine ⟨rfl, ⟨?_, h.low, ?_, own_keep h.raw (fun j hj => setRow_far _ _ _ _ (fun e => hgr (by rw [← e]; exact hj))), h.a1, h.a2, h.a3, ?_⟩, rfl, rfl, rfl, Nat.le_of_eq (setRow_size _ _ _).symm, fun j hj hn => setRow_far _ _ _ _ (fun e => hn (.inr (.inl (by rw [hv, e]; rfl)))), fun j hj => .inl hj⟩
  · rw [setRow_far _ _ _ _ (Ne.symm hgb)]; exact h.blk
  · show World.ownsRow _ _ _ _ vs (layS d.S k data).length (scs (layS d.S k data))
    rw [layS_len, ← scs_lay h.ok.s128 hk hd, hv]
    exact HO.out (k * 128) (sc data) (by rw [sc_len]; omega)
  · exact ⟨layS_128 h.ok.s128 hk hd, h.ok.l0, h.ok.l1, h.ok.b0, h.ok.b1, by show 0 < (layS _ _ _).length; rw [layS_len]; exact h.ok.s0, by show (layS _ _ _).length ≤ _; rw [layS_len]; exact h.ok.s1⟩

set_option maxHeartbeats 400000 in
theorem size_any {base : Nat} {w : World} {b : Nat} {F : Nat → Prop} {d : DS} (h : Dk base w b F d) :
    Calls Try.prog 26 #[.pointer (some ⟨b, 0, none⟩)] w fun e w' => e = .returned (.int .i64 (d.S.length : Int)) ∧ w' = w := by
  obtain ⟨vs, vr, h, -⟩ := h
  obtain ⟨g, cap, hv, hg, hc, hcm⟩ := h.form
  have c0 := h.c0
  rw [hv] at c0
  clear h hv
  go_enter Try.func26, Try.ntmps26
  go_wp2
  go_ret
  exact ⟨rfl, rfl⟩
set_option maxHeartbeats 400000 in
theorem dead_any {base : Nat} {w : World} {b : Nat} {F : Nat → Prop} {d : DS} (h : Dk base w b F d) :
    Calls Try.prog 23 #[.pointer (some ⟨b, 0, none⟩)] w fun e w' => e = .returned (.bool d.dead) ∧ w' = w := by
  obtain ⟨vs, vr, h, -⟩ := h
  have c0 := h.c2
  clear h
  go_enter Try.func23, Try.ntmps23
  go_wp2
  go_ret
  exact ⟨rfl, rfl⟩
theorem setFive {w : World} {b : Nat} {T : TypeId} {c0 c1 c2 c3 c4 : Value} (h : w.heap[b]? = some (.cells #[c0, c1, c2, c3, c4] T (0, 0))) (k : Nat) (v : Value) :
    (w.setCell ⟨b, k, none⟩ v).heap[b]? = some (.cells (#[c0, c1, c2, c3, c4].setIfInBounds k v) T (0, 0)) := by
  have hlt := lt_of_block h
  have h' : w.heap[b] = .cells #[c0, c1, c2, c3, c4] T (0, 0) := by simpa [Array.getElem?_eq_getElem hlt] using h
  show (w.heap.modify b _)[b]? = _
  rw [Array.getElem?_eq_getElem (by simpa using hlt), Array.getElem_modify_self, h']
  rfl
theorem setCell_size (w : World) (a : Addr) (v : Value) : (w.setCell a v).heap.size = w.heap.size := by simp [World.setCell]
theorem Mv.set {F : Nat → Prop} {w w' : World} (h : Mv F F w w') {a : Addr} (ha : F a.block) (v : Value) : Mv F F w (w'.setCell a v) :=
  ⟨h.os, h.tape, h.output, by rw [setCell_size]; exact h.size, fun k hk hn => (Below.heap_setCell w' a v k (fun e => hn (by rw [e]; exact ha))).trans (h.block k hk hn), h.foot⟩

set_option maxHeartbeats 400000 in
theorem revive_any {base : Nat} {w : World} {b : Nat} {F : Nat → Prop} {d : DS} (h : Dk base w b F d) :
    Calls Try.prog 27 #[.pointer (some ⟨b, 0, none⟩)] w fun e w' => e = .returned (.tuple #[]) ∧ Dk base w' b F d.revive ∧ Mv F F w w' := by
  obtain ⟨vs, vr, h, rfl⟩ := h
  have c2 := h.c2
  have c3 := h.c3
  have z := h.z
  have H := hide h
  clear h
  go_enter Try.func27, Try.ntmps27
  go_wp2
  go_end0
  refine ⟨rfl, ⟨vs, vr, H.out.put (d' := d.revive) ?_ (fun k hk _ => ?_) rfl rfl (DS.revive_ok H.out.ok), rfl⟩, ((Mv.refl w).set (.inl rfl) _).set (.inl rfl) _⟩
  · rw [setFive (setFive H.out.blk 2 _) 3 _]; rfl
  · rw [Below.heap_setCell _ _ _ k hk, Below.heap_setCell _ _ _ k hk]

set_option maxHeartbeats 1000000 in
theorem arm_any {base : Nat} {w : World} {b : Nat} {F : Nat → Prop} {d : DS} (h : Dk base w b F d) (n m : Int) (hn : n ≤ 9223372036854775807) :
    Calls Try.prog 19 #[.pointer (some ⟨b, 0, none⟩), .int .i64 n, .int .i64 m] w fun e w' => e = .returned (.int .i64 (d.arm n m).1) ∧ Dk base w' b F (d.arm n m).2 ∧ Mv F F w w' := by
  obtain ⟨vs, vr, h, rfl⟩ := h
  have c2 := h.c2
  have c3 := h.c3
  have c4 := h.c4
  have z := h.z
  have H := hide h
  have ho := DS.arm_ok (d := d) (b := m) h.ok hn
  clear h
  unfold DS.arm at ho ⊢
  cases hd : d.dead
  · rw [hd] at c2
    simp only [hd, Bool.false_eq_true, if_false] at ho ⊢
    by_cases h1 : n < 0
    · rw [if_pos (.inl h1)]
      have b0 : decide (n < 0) = true := by simp; omega
      clear ho
      go_enter Try.func19, Try.ntmps19
      go_wp2
      go_ret
      exact ⟨rfl, ⟨vs, vr, H.out, rfl⟩, Mv.refl _⟩
    · by_cases h2 : 0 ≤ m ∧ m ≤ 128
      · rw [if_neg (by omega)] at ho ⊢
        have b0 : decide (n < 0) = false := by simp; omega
        have b1 : decide (0 ≤ m) = true := by simp; omega
        have b2 : decide (m ≤ 128) = true := by simp; omega
        have HO := hide ho
        clear ho h1 h2
        go_enter Try.func19, Try.ntmps19
        go_wp2
        go_ret
        refine ⟨rfl, ⟨vs, vr, H.out.put ?_ (fun k hk _ => ?_) rfl rfl HO.out, rfl⟩, ((Mv.refl w).set (.inl rfl) _).set (.inl rfl) _⟩
        · rw [setFive (setFive H.out.blk 3 _) 4 _, hd]; rfl
        · rw [Below.heap_setCell _ _ _ k hk, Below.heap_setCell _ _ _ k hk]
      · rw [if_pos (.inr h2)]
        have b0 : decide (n < 0) = false := by simp; omega
        clear ho
        by_cases h3 : 0 ≤ m
        · have b1 : decide (0 ≤ m) = true := by simp; omega
          have b2 : decide (m ≤ 128) = false := by simp; omega
          clear h1 h2 h3
          go_enter Try.func19, Try.ntmps19
          go_wp2
          go_ret
          exact ⟨rfl, ⟨vs, vr, H.out, rfl⟩, Mv.refl _⟩
        · have b1 : decide (0 ≤ m) = false := by simp; omega
          clear h1 h2 h3
          go_enter Try.func19, Try.ntmps19
          go_wp2
          go_ret
          exact ⟨rfl, ⟨vs, vr, H.out, rfl⟩, Mv.refl _⟩
  · rw [hd] at c2
    simp only [hd, if_true] at ho ⊢
    clear ho
    go_enter Try.func19, Try.ntmps19
    go_wp2
    go_ret
    exact ⟨rfl, ⟨vs, vr, H.out, rfl⟩, Mv.refl _⟩
end Go.Proofs.Ytnhibcadenmglaa
