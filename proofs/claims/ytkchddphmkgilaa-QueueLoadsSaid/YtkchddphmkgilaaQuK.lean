import Derived.Test.YtkchddphmkgilaaQuJ
namespace Go.Proofs.Ytkchddphmkgilaa
open Go.RowKit

/-- what Load leaves -/
inductive LPost (x : Int) (L : List Rr) (w : World) (e : Ending) (w' : World) : Prop
  | arg : ¬ (1 ≤ x ∧ x ≤ 8) → e = .returned (.tuple #[.pointer none, .int .i64 1]) → Below w.heap.size w w' → LPost x L w e w'
  | form : 1 ≤ x ∧ x ≤ 8 → ¬ ROk x L → e = .returned (.tuple #[.pointer none, .int .i64 114]) → Below w.heap.size w w' → LPost x L w e w'
  | ok (b : Nat) (v : Value) : Ok x L → e = .returned (.tuple #[.pointer (some ⟨b, 0, none⟩), .int .i64 0]) → Qm 47 w.heap.size w' b v x L → Below w.heap.size w w' → LPost x L w e w'
set_option maxHeartbeats 1000000 in
theorem load_any {w : World} {ad : Option Addr} {ab ao cap : Nat} {L : List Rr} {x : Int} (h : Rs w ad ab ao L) :
    Calls Try.prog 4 #[.int .i64 x, .slice ad L.length cap] w (LPost x L w) := by
  by_cases h1 : x < 1
  · go_enter Try.func4, Try.ntmps4
    go_wp2
    go_ret2
    exact .arg (by omega) rfl (Below.refl _ _)
  by_cases h2 : 8 < x
  · go_enter Try.func4, Try.ntmps4
    go_wp2
    go_ret2
    exact .arg (by omega) rfl (Below.refl _ _)
  have HR := hide h
  have HM := hide (rowsMay_any (most := x) (cap := cap) h)
  clear h
  go_enter Try.func4, Try.ntmps4
  go_wp2_with fail
  refine HM.out.mono ?_
  rintro e w1 ⟨⟨hr, rfl⟩ | ⟨hr, rfl⟩, hB1⟩
  · have HR1 := hide (HR.out.below hB1)
    have HB1 := hide hB1
    have HO := hide hr
    have hl := hr.len
    clear hr hB1 HM
    go_wp2_with fail
    refine (copied_any (cap := cap) HR1.out (by omega)).mono ?_
    rintro e w2 ⟨rfl, ho2, hB2⟩
    have HO2 := hide ho2
    have HB2 := hide hB2
    have hlt : w1.heap.size < w2.heap.size := (ho2.lt w1.heap.size rfl).2
    clear ho2 hB2
    go_wp2_with fail
    go_ret2
    have hs1 := HB1.out.size
    refine .ok w2.heap.size (.slice (some ⟨w1.heap.size, 0, none⟩) L.length L.length) ⟨HO.out, by omega, by omega⟩ rfl ⟨heap_alloc_new w2 _, by omega, ?_, ?_⟩ (HB1.out.trans ((HB2.out.mono hs1).alloc (by omega) _))
    · have h3 := HO2.out
      refine ⟨h3.1, ?_⟩
      rcases h3.2 with h4 | ⟨g, c, cur, he, hg, hh, h5⟩
      · exact .inl h4
      · exact .inr ⟨g, c, cur, he, by omega, (Below.heap_alloc _ _ _ (lt_of_block hh)).trans hh, h5⟩
    · simp only [Value.ownBlock]; intro e; injection e with e; omega
  · have HB1 := hide hB1
    clear HM HR
    go_wp2_with fail
    go_ret2
    exact .form (by omega) hr rfl HB1.out
/-- what New leaves -/
inductive NPost (x : Int) (w : World) (e : Ending) (w' : World) : Prop
  | arg : ¬ (1 ≤ x ∧ x ≤ 8) → e = .returned (.tuple #[.pointer none, .int .i64 1]) → Below w.heap.size w w' → NPost x w e w'
  | ok (b : Nat) (v : Value) : Ok x [] → e = .returned (.tuple #[.pointer (some ⟨b, 0, none⟩), .int .i64 0]) → Qm 47 w.heap.size w' b v x [] → Below w.heap.size w w' → NPost x w e w'
set_option maxHeartbeats 1000000 in
theorem qnew_any (w : World) (x : Int) : Calls Try.prog 20 #[.int .i64 x] w (NPost x w) := by
  have HL := hide (load_any (x := x) (cap := 0) (show Rs w none 0 0 [] from ⟨fun h => absurd h (by simp), fun i hi => absurd hi (by simp)⟩))
  simp only [List.length_nil] at HL
  go_enter Try.func20, Try.ntmps20
  go_wp2_with fail
  refine HL.out.mono ?_
  rintro e w1 (⟨h1, rfl, h2⟩ | ⟨_, h1, _⟩ | ⟨b, v, h1, rfl, h2, h3⟩)
  · go_wp2_with fail
    go_ret2
    exact .arg h1 rfl h2
  · exact absurd (ROk.nil x) h1
  · go_wp2_with fail
    go_ret2
    exact .ok b v h1 rfl h2 h3
section
variable {base : Nat} {w : World} {b : Nat} {v : Value} {L : List Rr} {m : Int}
set_option maxHeartbeats 1000000 in
theorem qhead_any (h : Qm 47 base w b v m L) (hl : L.length ≤ 8) : Calls Try.prog 18 #[.pointer (some ⟨b, 0, none⟩)] w fun e w' => e = .returned (.int .i64 (hd L)) ∧ Below w.heap.size w w' := by
  obtain ⟨ad, cap, ab, rfl, hR, _⟩ := h.form
  have c1 := h.c1
  have HA := hide (askI_any (cap := cap) hR (by omega) 37 #[] hdF (fun _ _ => True) 0 trivial (fun _ _ _ => rfl) (fun w1 i hi a _ _ => ⟨trivial, head1_any w1 a L[i]⟩))
  clear h hR
  go_enter Try.func18, Try.ntmps18
  go_wp2_with fail
  refine HA.out.mono ?_
  rintro e w1 ⟨rfl, hB, _⟩
  go_wp2_with fail
  go_ret
  exact ⟨rfl, hB⟩
set_option maxHeartbeats 1000000 in
theorem qrows_any (h : Qm 47 base w b v m L) (hl : L.length ≤ 8) : Calls Try.prog 17 #[.pointer (some ⟨b, 0, none⟩)] w fun e w' => e = .returned (.slice (some ⟨w.heap.size, 0, none⟩) L.length L.length) ∧ w'.ownsRow w.heap.size 30 8 (.slice (some ⟨w.heap.size, 0, none⟩) L.length L.length) L.length (rcs L) ∧ Below w.heap.size w w' := by
  obtain ⟨ad, cap, ab, rfl, hR, _⟩ := h.form
  have c1 := h.c1
  have HA := hide (copied_any (cap := cap) hR (by omega))
  clear h hR
  go_enter Try.func17, Try.ntmps17
  go_wp2_with fail
  refine HA.out.mono ?_
  rintro e w1 ⟨rfl, ho, hB⟩
  go_wp2_with fail
  go_ret
  exact ⟨rfl, ho, hB⟩
/-- what Row tells -/
def rowR (L : List Rr) (j : Int) : Rr := if 1 ≤ j ∧ j ≤ (L.length : Int) then L.getD (j - 1).toNat rr0 else rr0
def rowB (L : List Rr) (j : Int) : Bool := decide (1 ≤ j ∧ j ≤ (L.length : Int))
set_option maxHeartbeats 1000000 in
set_option maxRecDepth 8000 in
theorem qrow_any (h : Qm 47 base w b v m L) (hl : L.length ≤ 8) (j : Int) : Calls Try.prog 31 #[.pointer (some ⟨b, 0, none⟩), .int .i64 j] w fun e w' => e = .returned (.tuple #[(rowR L j).val, .bool (rowB L j)]) ∧ Below w.heap.size w w' := by
  obtain ⟨ad, cap, ab, rfl, hR, _⟩ := h.form
  have hlt := h.lt
  have c1 : ∀ o, (w.alloc o).cell? ⟨b, 1, none⟩ = some (.slice ad L.length cap) := fun o => Lib.cell?_alloc_some _ h.c1
  by_cases h1 : j < 1
  · have HE : Hid (rowR L j = rr0) := if_neg (by omega)
    have HF : Hid (rowB L j = false) := decide_eq_false (by omega)
    go_enter Try.func31, Try.ntmps31
    go_wp2
    refine bodyPost_ret (by rw [results_cell_tmp (fn := Try.f31) rfl]; go_simp; rfl) rfl ?_
    exact ⟨by rw [HE.out, HF.out]; rfl, below_alloc _ _⟩
  by_cases h2 : (L.length : Int) < j
  · have HE : Hid (rowR L j = rr0) := if_neg (by omega)
    have HF : Hid (rowB L j = false) := decide_eq_false (by omega)
    go_enter Try.func31, Try.ntmps31
    go_wp2
    refine bodyPost_ret (by rw [results_cell_tmp (fn := Try.f31) rfl]; go_simp; rfl) rfl ?_
    exact ⟨by rw [HE.out, HF.out]; rfl, below_alloc _ _⟩
  obtain ⟨n, rfl⟩ : ∃ n : Nat, j = (n : Int) + 1 := ⟨(j - 1).toNat, by omega⟩
  have hn : n < L.length := by omega
  have HE : Hid (rowR L ((n : Int) + 1) = L[n]) := by
    show rowR L _ = _
    unfold rowR
    rw [if_pos (by omega), show ((n : Int) + 1 - 1).toNat = n by omega, List.getD_eq_getElem?_getD, List.getElem?_eq_getElem hn]; rfl
  have HF : Hid (rowB L ((n : Int) + 1) = true) := decide_eq_true (by omega)
  have hat := hR.at_ (by omega)
  subst hat
  have hlr := hR.lt (by omega)
  obtain ⟨k0, k1, k2, k3, k4, k5, k6, k7⟩ := hR.eight0 hn
  have e1 : (n : Int) + 1 - 1 = (n : Int) := by omega
  have hnI : (n : Int) < (L.length : Int) := by omega
  clear h hR
  generalize L[n] = r at *
  go_enter Try.func31, Try.ntmps31
  go_wp2
  refine bodyPost_ret (by rw [results_cell_tmp (fn := Try.f31) rfl]; go_simp; rfl) rfl ?_
  exact ⟨by rw [HE.out, HF.out], below_alloc _ _⟩
end
end Go.Proofs.Ytkchddphmkgilaa
