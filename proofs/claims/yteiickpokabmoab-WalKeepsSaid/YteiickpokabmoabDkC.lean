import Derived.Test.YteiickpokabmoabDkB
namespace Go.Proofs.Yteiickpokabmoab.D
open Go.RowKit

theorem Try.infoU : (Try.prog.info? 5).map (·.size) = some 1 := by kernel_rfl

theorem setRow_far (w : World) (g k : Nat) (cs : Array Value) (h : k ≠ g) : (w.setRow g cs).heap[k]? = w.heap[k]? := setRow_other w g k cs h
theorem setRow_size (w : World) (g : Nat) (cs : Array Value) : (w.setRow g cs).heap.size = w.heap.size := by simp [World.setRow]

section
variable {base : Nat} {w : World} {b : Nat} {vs vr : Value} {d : DS}
theorem DkV.form (h : DkV base w b vs vr d) : ∃ g cap, vs = .slice (some ⟨g, 0, none⟩) d.S.length cap ∧ g < w.heap.size ∧ d.S.length ≤ cap ∧ cap ≤ 9223372036854775807 := by
  rcases own_form h.sec with ⟨_, hn⟩ | h1
  · have := h.ok.s0; omega
  · exact h1
end

set_option maxHeartbeats 400000 in
theorem lay_any {base : Nat} {w : World} {b : Nat} {vs vr : Value} {d : DS} (h : DkV base w b vs vr d) (k : Nat) (data : ByteArray) (hk : k < d.S.length) (hd : data.size ≤ 128) :
    Calls Try.prog 57 #[.pointer (some ⟨b, 0, none⟩), .int .i64 (k : Int), .string data] w fun e w' => e = .returned (.tuple #[]) ∧ DkV base w' b vs vr { d with S := layS d.S k data } ∧ Mv (Fd b vs vr) (Fd b vs vr) w w' := by
  obtain ⟨g, cap, hv, hg, hc, hcm⟩ := h.form
  have c0 := h.c0
  rw [hv] at c0
  have H := hide h
  have hS := h.ok.s1
  have hkl : decide ((k : Int) < (d.S.length : Int)) = true := by simp; omega
  obtain ⟨cur, hcur, hsz, hown⟩ := own_splice (hv ▸ h.sec)
  have HC := hide hcur
  have HO := hide hown
  have HZ := hide hsz
  clear hcur hown hsz h
  go_enter Try.func57, Try.ntmps57
  obtain ⟨X, hX⟩ : ∃ X, (splice cur.toList (k * 128) (sc data)).toArray = X := ⟨_, rfl⟩
  have hcp := run_copy_str (P := Try.prog) w 59 9 3 5 g (k * 128) 128 128 data cur 48 Try.underlying59 Try.infoU HC.out hd (by have := HZ.out; omega)
  rw [hX] at hcp
  have HX := hide hX
  clear hX
  go_wp2
  go_end0
  obtain rfl := HX.out
  have h := H.out
  have hgb : g ≠ b := fun e => h.a1 (by rw [hv, ← e]; rfl)
  have hgr : vr.ownBlock ≠ some g := h.a3 g (by rw [hv]; rfl)
  refine ⟨rfl, ⟨?_, h.low, ?_, own_keep h.raw (fun j hj => setRow_far _ _ _ _ (fun e => hgr (by rw [← e]; exact hj))), h.a1, h.a2, h.a3, ?_⟩, rfl, rfl, rfl, Nat.le_of_eq (setRow_size _ _ _).symm, fun j hj hn => setRow_far _ _ _ _ (fun e => hn (.inr (.inl (by rw [hv, e]; rfl)))), fun j hj => .inl hj⟩
  · rw [setRow_far _ _ _ _ (Ne.symm hgb)]; exact h.blk
  · show World.ownsRow _ _ _ _ vs (layS d.S k data).length (scs (layS d.S k data))
    rw [layS_len, ← scs_lay h.ok.s128 hk hd, hv]
    exact HO.out (k * 128) (sc data) (by rw [sc_len]; omega)
  · exact ⟨layS_128 h.ok.s128 hk hd, h.ok.l0, h.ok.l1, h.ok.b0, h.ok.b1, by show 0 < (layS _ _ _).length; rw [layS_len]; exact h.ok.s0, by show (layS _ _ _).length ≤ _; rw [layS_len]; exact h.ok.s1⟩

set_option maxHeartbeats 400000 in
theorem size_any {base : Nat} {w : World} {b : Nat} {F : Nat → Prop} {d : DS} (h : Dk base w b F d) :
    Calls Try.prog 24 #[.pointer (some ⟨b, 0, none⟩)] w fun e w' => e = .returned (.int .i64 (d.S.length : Int)) ∧ w' = w := by
  obtain ⟨vs, vr, h, -⟩ := h
  obtain ⟨g, cap, hv, hg, hc, hcm⟩ := h.form
  have c0 := h.c0
  rw [hv] at c0
  clear h hv
  go_enter Try.func24, Try.ntmps24
  go_wp2
  go_ret
  exact ⟨rfl, rfl⟩
set_option maxHeartbeats 400000 in
theorem dead_any {base : Nat} {w : World} {b : Nat} {F : Nat → Prop} {d : DS} (h : Dk base w b F d) :
    Calls Try.prog 34 #[.pointer (some ⟨b, 0, none⟩)] w fun e w' => e = .returned (.bool d.dead) ∧ w' = w := by
  obtain ⟨vs, vr, h, -⟩ := h
  have c0 := h.c2
  clear h
  go_enter Try.func34, Try.ntmps34
  go_wp2
  go_ret
  exact ⟨rfl, rfl⟩
theorem setFive {w : World} {b : Nat} {T : TypeId} {c0 c1 c2 c3 c4 : Value} (h : w.heap[b]? = some (.cells #[c0, c1, c2, c3, c4] T (0, 0))) (k : Nat) (v : Value) :
    (w.setCell ⟨b, k, none⟩ v).heap[b]? = some (.cells (#[c0, c1, c2, c3, c4].setIfInBounds k v) T (0, 0)) := by
  have hlt := lt_of_block h
  have h' : w.heap[b] = .cells #[c0, c1, c2, c3, c4] T (0, 0) := by simpa [Array.getElem?_eq_getElem hlt] using h
  show (w.heap.modify b _)[b]? = _
  rw [Array.getElem?_eq_getElem (by simpa using hlt), Array.getElem_modify_self, h']
  rfl
theorem setCell_size (w : World) (a : Addr) (v : Value) : (w.setCell a v).heap.size = w.heap.size := by simp [World.setCell]
theorem Mv.set {F : Nat → Prop} {w w' : World} (h : Mv F F w w') {a : Addr} (ha : F a.block) (v : Value) : Mv F F w (w'.setCell a v) :=
  ⟨h.os, h.tape, h.output, by rw [setCell_size]; exact h.size, fun k hk hn => (Below.heap_setCell w' a v k (fun e => hn (by rw [e]; exact ha))).trans (h.block k hk hn), h.foot⟩

end Go.Proofs.Yteiickpokabmoab.D
