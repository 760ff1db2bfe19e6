import Derived.Test.YtnhibcadenmglaaDkP
import Derived.Test.YtnhibcadenmglaaDkO
namespace Go.Proofs.Ytnhibcadenmglaa
open Go.RowKit

def secsOk (L : Nat) (R : List Wr) : Bool := R.all fun r => decide (0 ≤ r.sec ∧ r.sec < (L : Int))
def dataOk (R : List Wr) : Bool := R.all fun r => r.data.size == 128
/-- the last test of Cut -/
def cutN (m : Nat) (n b : Int) : Prop := ¬ (0 ≤ n ∧ n ≤ (m : Int)) ∨ ¬ (0 ≤ b ∧ b ≤ 128) ∨ (n = (m : Int) ∧ b ≠ 0)
instance (m : Nat) (n b : Int) : Decidable (cutN m n b) := by unfold cutN; infer_instance
/-- Cut's error -/
def cutE (l : List ByteArray) (R : List Wr) (n b : Int) : Int :=
  if ¬ (1 ≤ l.length ∧ l.length ≤ 1026) then 40
  else if secsOk l.length R = false then 40
  else if all8 l = false then 41
  else if dataOk R = false then 41
  else if cutN R.length n b then 42 else 0
theorem secs_get {L : Nat} {R : List Wr} (h : secsOk L R = true) {i : Nat} (hi : i < R.length) : 0 ≤ R[i].sec ∧ R[i].sec < (L : Int) := by
  have := List.all_eq_true.1 h R[i] (List.getElem_mem hi)
  simpa using this
theorem data_get {R : List Wr} (h : dataOk R = true) {i : Nat} (hi : i < R.length) : R[i].data.size = 128 := by
  have := List.all_eq_true.1 h R[i] (List.getElem_mem hi)
  simpa using this
theorem cutE_ok {l : List ByteArray} {R : List Wr} {n b : Int} (h : cutE l R n b = 0) : (A128 l ∧ 0 < l.length ∧ l.length ≤ 1026) ∧ secsOk l.length R = true ∧ dataOk R = true ∧ ¬ cutN R.length n b := by
  unfold cutE at h
  split at h
  · cases h
  · split at h
    · cases h
    · split at h
      · cases h
      · split at h
        · cases h
        · split at h
          · cases h
          · rename_i h1 h2 h3 h4 h5
            exact ⟨⟨all8_A (by simpa using h3), by omega, by omega⟩, by simpa using h2, by simpa using h4, h5⟩

set_option maxHeartbeats 1000000 in
set_option maxRecDepth 8000 in
theorem checkCut_any {w : World} {ad ad2 : Option Addr} {ab ao cap ab2 ao2 cap2 : Nat} {l : List ByteArray} {R : List Wr} {n b : Int} (h : Rs w ad ab ao l) (h2 : Rw w ad2 ab2 ao2 R) (hl : l.length ≤ 8796093021952) (hR : R.length ≤ 5864062014634) :
    Calls Try.prog 37 #[.slice ad l.length cap, .slice ad2 R.length cap2, .int .i64 n, .int .i64 b] w fun e w' => e = .returned (.int .i64 (cutE l R n b)) ∧ Below w.heap.size w w' := by
  unfold cutE
  by_cases h1 : 1 ≤ l.length ∧ l.length ≤ 1026
  · rw [if_neg (by simpa using h1)]
    obtain ⟨E, hE⟩ : ∃ E, (if secsOk l.length R = false then (40 : Int) else if all8 l = false then 41 else if dataOk R = false then 41 else if cutN R.length n b then 42 else 0) = E := ⟨_, rfl⟩
    rw [hE]
    have HE := hide hE
    clear hE
    have b0 : decide ((1 : Int) ≤ (l.length : Int)) = true := by simp; omega
    have b1 : decide ((l.length : Int) ≤ 1026) = true := by simp; omega
    obtain ⟨hp, hq⟩ := h1
    have H := hide h
    have H2 := hide h2
    clear h h2
    go_enter Try.func37, Try.ntmps37
    go_wp2
    go_loopw [19] (fun u wr => ∃ i : Nat, u = .int .i64 (i : Int) ∧ i ≤ R.length ∧ Hid (Below w.heap.size w wr) ∧ Hid (secsOk l.length R = secsOk l.length (R.drop i))) (fun u _ => (R.length - (intOf u).toNat))
    case atStart => exact ⟨0, rfl, Nat.zero_le _, Below.refl _ _, rfl⟩
    case round =>
      obtain ⟨i, rfl, hi, HB, HA⟩ := hrel
      by_cases hil : i < R.length
      · have h2' := H2.out.below HB.out
        have c0 := h2'.sec i hil
        have c1 := h2'.data i hil
        have ea := h2'.at_ (by omega)
        have hd : R.drop i = R[i] :: R.drop (i + 1) := List.drop_eq_getElem_cons hil
        have hA2 : secsOk l.length (R.drop i) = (decide (0 ≤ R[i].sec ∧ R[i].sec < (l.length : Int)) && secsOk l.length (R.drop (i + 1))) := by rw [hd]; rfl
        have HA2 := hide hA2
        generalize R[i] = r at *
        obtain ⟨x, y⟩ := r
        simp only at c0 c1 HA2
        subst ea
        clear hd hA2 h2'
        have HB' := hide (HB.out.alloc HB.out.size (.cells #[.int .i64 x, .string y] 50))
        by_cases hx : 0 ≤ x ∧ x < (l.length : Int)
        · have HA3 : Hid (secsOk l.length R = secsOk l.length (R.drop (i + 1))) := show _ = _ by rw [HA.out, HA2.out]; simp [hx]
          obtain ⟨hx0, hx1⟩ := hx
          have d0 : decide (0 ≤ x) = true := by simpa using hx0
          have d1 : decide (x < (l.length : Int)) = true := by simpa using hx1
          clear HA HA2
          go_wp2
          exact ⟨⟨i + 1, by go_num, by omega, HB', HA3⟩, by simp [intOf]; omega⟩
        · have HA3 : Hid (secsOk l.length R = false) := show _ = _ by rw [HA.out, HA2.out]; simp [hx]
          clear HA HA2
          by_cases hx0 : 0 ≤ x
          · have d0 : decide (0 ≤ x) = true := by simpa using hx0
            have d1 : decide (x < (l.length : Int)) = false := by simp; omega
            clear hx
            go_wp2
            go_ret
            exact ⟨by rw [← HE.out, HA3.out]; rfl, HB'.out⟩
          · have d0 : decide (0 ≤ x) = false := by simp; omega
            clear hx
            go_wp2
            go_ret
            exact ⟨by rw [← HE.out, HA3.out]; rfl, HB'.out⟩
      · have ei : R.length = i := by omega
        subst ei
        have HA3 : Hid (secsOk l.length R = true) := show _ = _ by rw [HA.out, List.drop_length]; rfl
        have HW := hide (allWhole_any (cap := cap) (H.out.below HB.out) hl)
        clear HA
        cases h8 : all8 l
        · rw [h8] at HW
          have HA8 := hide h8
          clear h8
          go_wp2_with (first | (go_at_call 34; refine HW.out.mono ?_; rintro e w1 ⟨rfl, rfl⟩) | go_in)
          go_ret
          exact ⟨by rw [← HE.out, HA3.out, HA8.out]; rfl, HB.out⟩
        · rw [h8] at HW
          have HA8 := hide h8
          clear h8
          go_wp2_with (first | (go_at_call 34; refine HW.out.mono ?_; rintro e w1 ⟨rfl, e1⟩; have e1' := e1.symm; subst e1'; clear e1) | go_in)
          go_loopw [35] (fun u wr => ∃ i : Nat, u = .int .i64 (i : Int) ∧ i ≤ R.length ∧ Hid (Below w.heap.size w wr) ∧ Hid (dataOk R = dataOk (R.drop i))) (fun u _ => (R.length - (intOf u).toNat))
          case atStart => exact ⟨0, rfl, Nat.zero_le _, HB, rfl⟩
          case round =>
            clear HB hi hil HW
            obtain ⟨i, rfl, hi, HB, HA⟩ := hrel
            by_cases hil : i < R.length
            · have h2' := H2.out.below HB.out
              have c0 := h2'.sec i hil
              have c1 := h2'.data i hil
              have ea := h2'.at_ (by omega)
              have hd : R.drop i = R[i] :: R.drop (i + 1) := List.drop_eq_getElem_cons hil
              have hA2 : dataOk (R.drop i) = ((R[i].data.size == 128) && dataOk (R.drop (i + 1))) := by rw [hd]; rfl
              have HA2 := hide hA2
              generalize R[i] = r at *
              obtain ⟨x, y⟩ := r
              simp only at c0 c1 HA2
              subst ea
              clear hd hA2 h2'
              have HB' := hide (HB.out.alloc HB.out.size (.cells #[.int .i64 x, .string y] 50))
              by_cases hy : y.size = 128
              · have HA4 : Hid (dataOk R = dataOk (R.drop (i + 1))) := show _ = _ by rw [HA.out, HA2.out, hy]; rfl
                clear HA HA2
                go_wp2
                exact ⟨⟨i + 1, by go_num, by omega, HB', HA4⟩, by simp [intOf]; omega⟩
              · have HA4 : Hid (dataOk R = false) := show _ = _ by rw [HA.out, HA2.out]; simp [hy]
                have d0 : ((y.size : Int) == 128) = false := by simp; omega
                clear HA HA2
                go_wp2
                go_ret
                exact ⟨by rw [← HE.out, HA3.out, HA8.out, HA4.out]; rfl, HB'.out⟩
            · have ei : R.length = i := by omega
              subst ei
              have HA4 : Hid (dataOk R = true) := show _ = _ by rw [HA.out, List.drop_length]; rfl
              clear HA hi hil
              have HX : Hid (∀ v : Int, (if cutN R.length n b then (42 : Int) else 0) = v → E = v) := fun v hv => by rw [← HE.out, HA3.out, HA8.out, HA4.out, if_neg (by decide), if_neg (by decide), if_neg (by decide)]; exact hv
              clear HE HA3 HA8 HA4
              by_cases h0 : 0 ≤ n
              · have d0 : decide (0 ≤ n) = true := by simpa using h0
                by_cases h1 : n < (R.length : Int) + 1
                · have d1 : decide (n < (R.length : Int) + 1) = true := by simpa using h1
                  by_cases h2 : 0 ≤ b
                  · have d2 : decide (0 ≤ b) = true := by simpa using h2
                    by_cases h3 : b ≤ 128
                    · have d3 : decide (b ≤ 128) = true := by simpa using h3
                      by_cases h4 : n = (R.length : Int)
                      · have d4 : (n == (R.length : Int)) = true := by simpa using h4
                        by_cases h5 : b = 0
                        · have hv := HX.out 0 (if_neg (by unfold cutN; omega))
                          have HV := hide hv
                          have d5 : (b != 0) = false := by simpa using h5
                          clear hv HX h4
                          go_wp2
                          go_ret
                          exact ⟨by rw [HV.out]; rfl, HB.out⟩
                        · have hv := HX.out 42 (if_pos (by unfold cutN; omega))
                          have HV := hide hv
                          have d5 : (b != 0) = true := by simpa using h5
                          clear hv HX h4
                          go_wp2
                          go_ret
                          exact ⟨by rw [HV.out]; rfl, HB.out⟩
                      · have d4 : (n == (R.length : Int)) = false := by simpa using h4
                        have hv := HX.out 0 (if_neg (by unfold cutN; omega))
                        have HV := hide hv
                        clear hv HX
                        go_wp2
                        go_ret
                        exact ⟨by rw [HV.out]; rfl, HB.out⟩
                    · have d3 : decide (b ≤ 128) = false := by simp; omega
                      have hv := HX.out 42 (if_pos (by unfold cutN; omega))
                      have HV := hide hv
                      clear hv HX
                      go_wp2
                      go_ret
                      exact ⟨by rw [HV.out]; rfl, HB.out⟩
                  · have d2 : decide (0 ≤ b) = false := by simp; omega
                    have hv := HX.out 42 (if_pos (by unfold cutN; omega))
                    have HV := hide hv
                    clear hv HX
                    go_wp2
                    go_ret
                    exact ⟨by rw [HV.out]; rfl, HB.out⟩
                · have d1 : decide (n < (R.length : Int) + 1) = false := by simp; omega
                  have hv := HX.out 42 (if_pos (by unfold cutN; omega))
                  have HV := hide hv
                  clear hv HX
                  go_wp2
                  go_ret
                  exact ⟨by rw [HV.out]; rfl, HB.out⟩
              · have d0 : decide (0 ≤ n) = false := by simp; omega
                have hv := HX.out 42 (if_pos (by unfold cutN; omega))
                have HV := hide hv
                clear hv HX
                go_wp2
                go_ret
                exact ⟨by rw [HV.out]; rfl, HB.out⟩
  · rw [if_pos h1]
    clear h h2
    by_cases hp : 1 ≤ l.length
    · have b0 : decide ((1 : Int) ≤ (l.length : Int)) = true := by simp; omega
      have b1 : decide ((l.length : Int) ≤ 1026) = false := by simp; omega
      have b2 : ¬ l.length ≤ 1026 := by omega
      clear h1
      go_enter Try.func37, Try.ntmps37
      go_wp2
      go_ret
      exact ⟨rfl, Below.refl _ _⟩
    · have b0 : decide ((1 : Int) ≤ (l.length : Int)) = false := by simp; omega
      clear h1
      go_enter Try.func37, Try.ntmps37
      go_wp2
      go_ret
      exact ⟨rfl, Below.refl _ _⟩
end Go.Proofs.Ytnhibcadenmglaa
