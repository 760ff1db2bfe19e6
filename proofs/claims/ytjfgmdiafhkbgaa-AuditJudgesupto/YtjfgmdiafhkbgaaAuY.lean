import Derived.Test.YtjfgmdiafhkbgaaAuX
namespace Go.Proofs.Ytjfgmdiafhkbgaa
open Go.RowKit Go.MapKept
set_option maxRecDepth 8000

def jobK (k : Int) : Bool := k == 2 || k == 5 || k == 6 || k == 7 || k == 8 || k == 9 || k == 13 || k == 14
def idxK (k : Int) : Bool := k == 8 || k == 10 || k == 11 || k == 13
/-- may an event be? -/
def okE (e : Ev) : Bool := (decide (1 ≤ e.k) && decide (e.k ≤ 14)) && ((!jobK e.k || (decide (1 ≤ e.jo) && decide (e.jo ≤ 8))) && (!idxK e.k || (decide (0 ≤ e.ix) && decide (e.ix ≤ 1099511627776))))
theorem okE_k {e : Ev} (h : okE e = true) : 1 ≤ e.k ∧ e.k ≤ 14 := by
  unfold okE at h
  simp only [Bool.and_eq_true, decide_eq_true_eq] at h
  exact h.1
theorem okE_job {e : Ev} (h : okE e = true) (hj : jobK e.k = true) : 1 ≤ e.jo ∧ e.jo ≤ 8 := by
  unfold okE at h
  simp only [hj, Bool.and_eq_true, decide_eq_true_eq, Bool.or_eq_true, Bool.not_true, Bool.false_eq_true, false_or] at h
  exact h.2.1
theorem okE_idx {e : Ev} (h : okE e = true) (hj : idxK e.k = true) : 0 ≤ e.ix ∧ e.ix ≤ 1099511627776 := by
  unfold okE at h
  simp only [hj, Bool.and_eq_true, decide_eq_true_eq, Bool.or_eq_true, Bool.not_true, Bool.false_eq_true, false_or] at h
  exact h.2.2
/-- a cell of the table -/
def rowc (k j : Nat) : Value := kcs[k * 4 + j]!
section
variable {w w' w0 : World} {B b : Nat} {h : Hs} {s : Hi}
set_option maxHeartbeats 2000000 in
theorem next_any (H : Hm w B b h s) (h0 : w0.heap.size ≤ B) (hb0 : Below w0.heap.size w0 w) {N : Nat} (hok : h.ok N) (hN : N ≤ 65536) (e : Ev) {q : Option Addr} {cq : Nat} (HV : ∀ W, Below w0.heap.size w0 W → Tx W (.slice q e.ts.length cq) e.ts) (F : e.fit) (hv : okE e = true) {kN : Nat} (hk : e.k = (kN : Int)) :
    Calls Try.prog 20 #[.pointer (some ⟨b, 0, none⟩), .agg #[rowc kN 0, rowc kN 1, rowc kN 2, rowc kN 3], e.v (.slice q e.ts.length cq)] w fun r w' => r = .returned (stv h e) ∧ (∃ s', Hm w' B b (stp h e) s') ∧ Kt B w w' := by
  have hkk := okE_k hv
  have h14 : kN = 1 ∨ kN = 2 ∨ kN = 3 ∨ kN = 4 ∨ kN = 5 ∨ kN = 6 ∨ kN = 7 ∨ kN = 8 ∨ kN = 9 ∨ kN = 10 ∨ kN = 11 ∨ kN = 12 ∨ kN = 13 ∨ kN = 14 := by omega
  clear hkk
  obtain ⟨ek, eo, en, el, ej, eb, ei, ec, es, er, ew, ex, et⟩ := e
  dsimp only at hk HV
  rcases h14 with rfl | rfl | rfl | rfl | rfl | rfl | rfl | rfl | rfl | rfl | rfl | rfl | rfl | rfl
  · obtain rfl : ek = 1 := hk
    exact nx_1 H h0 hb0 hok hN ej eo en el eb ei ec es er ew ex HV F 
  · obtain rfl : ek = 2 := hk
    obtain ⟨i, hi8, rfl⟩ : ∃ i : Nat, i < 8 ∧ ej = (i : Int) + 1 := ⟨(ej - 1).toNat, by have := (okE_job hv rfl); dsimp only at this; omega, by have := (okE_job hv rfl); dsimp only at this; omega⟩
    exact nx_2 H h0 hb0 hok hN hi8 eo en el eb ei ec es er ew ex HV F 
  · obtain rfl : ek = 3 := hk
    exact nx_3 H h0 hb0 hok hN ej eo en el eb ei ec es er ew ex HV F 
  · obtain rfl : ek = 4 := hk
    exact nx_4 H h0 hb0 hok hN ej eo en el eb ei ec es er ew ex HV F 
  · obtain rfl : ek = 5 := hk
    obtain ⟨i, hi8, rfl⟩ : ∃ i : Nat, i < 8 ∧ ej = (i : Int) + 1 := ⟨(ej - 1).toNat, by have := (okE_job hv rfl); dsimp only at this; omega, by have := (okE_job hv rfl); dsimp only at this; omega⟩
    exact nx_5 H h0 hb0 hok hN hi8 eo en el eb ei ec es er ew ex HV F 
  · obtain rfl : ek = 6 := hk
    obtain ⟨i, hi8, rfl⟩ : ∃ i : Nat, i < 8 ∧ ej = (i : Int) + 1 := ⟨(ej - 1).toNat, by have := (okE_job hv rfl); dsimp only at this; omega, by have := (okE_job hv rfl); dsimp only at this; omega⟩
    exact nx_6 H h0 hb0 hok hN hi8 eo en el eb ei ec es er ew ex HV F 
  · obtain rfl : ek = 7 := hk
    obtain ⟨i, hi8, rfl⟩ : ∃ i : Nat, i < 8 ∧ ej = (i : Int) + 1 := ⟨(ej - 1).toNat, by have := (okE_job hv rfl); dsimp only at this; omega, by have := (okE_job hv rfl); dsimp only at this; omega⟩
    exact nx_7 H h0 hb0 hok hN hi8 eo en el eb ei ec es er ew ex HV F 
  · obtain rfl : ek = 8 := hk
    obtain ⟨i, hi8, rfl⟩ : ∃ i : Nat, i < 8 ∧ ej = (i : Int) + 1 := ⟨(ej - 1).toNat, by have := (okE_job hv rfl); dsimp only at this; omega, by have := (okE_job hv rfl); dsimp only at this; omega⟩
    exact nx_8 H h0 hb0 hok hN hi8 eo en el eb ei ec es er ew ex HV F (okE_idx hv rfl)
  · obtain rfl : ek = 9 := hk
    obtain ⟨i, hi8, rfl⟩ : ∃ i : Nat, i < 8 ∧ ej = (i : Int) + 1 := ⟨(ej - 1).toNat, by have := (okE_job hv rfl); dsimp only at this; omega, by have := (okE_job hv rfl); dsimp only at this; omega⟩
    exact nx_9 H h0 hb0 hok hN hi8 eo en el eb ei ec es er ew ex HV F 
  · obtain rfl : ek = 10 := hk
    exact nx_10 H h0 hb0 hok hN ej eo en el eb ei ec es er ew ex HV F (okE_idx hv rfl)
  · obtain rfl : ek = 11 := hk
    exact nx_11 H h0 hb0 hok hN ej eo en el eb ei ec es er ew ex HV F (okE_idx hv rfl)
  · obtain rfl : ek = 12 := hk
    exact nx_12 H h0 hb0 hok hN ej eo en el eb ei ec es er ew ex HV F 
  · obtain rfl : ek = 13 := hk
    obtain ⟨i, hi8, rfl⟩ : ∃ i : Nat, i < 8 ∧ ej = (i : Int) + 1 := ⟨(ej - 1).toNat, by have := (okE_job hv rfl); dsimp only at this; omega, by have := (okE_job hv rfl); dsimp only at this; omega⟩
    exact nx_13 H h0 hb0 hok hN hi8 eo en el eb ei ec es er ew ex HV F (okE_idx hv rfl)
  · obtain rfl : ek = 14 := hk
    obtain ⟨i, hi8, rfl⟩ : ∃ i : Nat, i < 8 ∧ ej = (i : Int) + 1 := ⟨(ej - 1).toNat, by have := (okE_job hv rfl); dsimp only at this; omega, by have := (okE_job hv rfl); dsimp only at this; omega⟩
    exact nx_14 H h0 hb0 hok hN hi8 eo en el eb ei ec es er ew ex HV F 
end
theorem Hs.ok.mono {N M : Nat} {h : Hs} (hok : h.ok N) (hm : N ≤ M) : h.ok M :=
  ⟨hok.len, fun j hj => Nat.le_trans (hok.lg j hj) (Nat.mul_le_mul_right _ hm), fun k n e => by have := hok.rs k n e; omega, fun k n e => by have := hok.cn k n e; omega, hok.up⟩
theorem ok_set {N : Nat} {h : Hs} (hok : h.ok N) {i : Nat} {j : Jb} (hj : j.lg.length ≤ N * 1048576) : Hs.ok N { h with jobs := h.jobs.set i j } :=
  ⟨by simpa using hok.len, fun x hx => by
    rcases List.mem_or_eq_of_mem_set hx with hx | rfl
    · exact hok.lg x hx
    · exact hj, hok.rs, hok.cn, hok.up⟩
theorem ok_lt {N : Nat} {h : Hs} (hok : h.ok N) {i : Nat} (hi : i < 8) (hle : i ≤ h.jobs.length) {j : Jb} (hj : j.lg.length ≤ N * 1048576) : (lt_ h i j).ok N := by
  unfold lt_
  by_cases hlt : i < h.jobs.length
  · rw [if_pos hlt]
    exact ok_set hok hj
  · rw [if_neg hlt]
    refine ⟨by simp; omega, fun x hx => ?_, hok.rs, hok.cn, hok.up⟩
    rcases List.mem_append.1 hx with hx | hx
    · exact hok.lg x hx
    · simp at hx
      subst hx
      exact hj
theorem jat_lg {N : Nat} {h : Hs} (hok : h.ok N) {i : Nat} (hi : i < h.jobs.length) : (jat h i).lg.length ≤ N * 1048576 := hok.lg _ (by
  unfold jat
  rw [getElem!_pos h.jobs i hi]
  exact List.getElem_mem hi)
theorem ok_pre {N : Nat} {h : Hs} (hok : h.ok N) (e : Ev) : (pre h e).ok N := by
  unfold pre
  split
  · exact hok
  · exact ⟨hok.len, hok.lg, hok.rs, hok.cn, hok.up⟩
theorem bhd_ok {N : Nat} {h : Hs} (hok : h.ok N) {e : Ev} (hv : okE e = true) (ht : e.ts.length ≤ 1048576) : (bhdA h e (jix e)).ok (N + 1) := by
  have h1 := hok.mono (Nat.le_succ N)
  have hz : (0 : Nat) ≤ (N + 1) * 1048576 := Nat.zero_le _
  have hj8 : jobK e.k = true → jix e < 8 := fun hj => by have := okE_job hv hj; unfold jix; omega
  have hsm : (N + 1) * 1048576 = N * 1048576 + 1048576 := by omega
  unfold bhdA
  by_cases hk : e.k = 2
  · rw [if_pos hk]
    split
    · rename_i hn
      have hn' : jix e = h.jobs.length := by simpa [nxt] using hn
      exact ok_lt h1 (hj8 (by rw [hk]; decide)) (by omega) hz
    · exact h1
  rw [if_neg hk]
  clear hk
  by_cases hk : e.k = 4
  · rw [if_pos hk]
    split
    · exact ⟨h1.len, h1.lg, h1.rs, h1.cn, ⟨Int.le_refl 0, (by omega : (0 : Int) ≤ 8)⟩⟩
    · exact h1
  rw [if_neg hk]
  clear hk
  by_cases hk : e.k = 5
  · rw [if_pos hk]
    have hx : (if knw h (jix e) = true then lt_ h (jix e) ⟨2, e.ba, 0, 0, []⟩ else h).ok (N + 1) := by
      split
      · rename_i hn
        have hn' : jix e < h.jobs.length := by simpa [knw] using hn
        exact ok_lt h1 (hj8 (by rw [hk]; decide)) (by omega) hz
      · exact h1
    exact ⟨hx.len, hx.lg, hx.rs, hx.cn, hx.up⟩
  rw [if_neg hk]
  clear hk
  by_cases hk : e.k = 6
  · rw [if_pos hk]
    split
    · rename_i hn; exact ok_set h1 (Nat.le_trans (jat_lg hok (hld_lt hn)) (Nat.mul_le_mul_right _ (Nat.le_succ N)))
    · exact h1
  rw [if_neg hk]
  clear hk
  by_cases hk : e.k = 7
  · rw [if_pos hk]
    split
    · rename_i hn; exact ok_set h1 (Nat.le_trans (jat_lg hok (hld_lt hn)) (Nat.mul_le_mul_right _ (Nat.le_succ N)))
    · exact h1
  rw [if_neg hk]
  clear hk
  by_cases hk : e.k = 8
  · rw [if_pos hk]
    split
    · rename_i hn; exact ok_set h1 (by have := jat_lg hok (hld_lt hn); dsimp only; rw [List.length_append]; omega)
    · exact h1
  rw [if_neg hk]
  clear hk
  by_cases hk : e.k = 9
  · rw [if_pos hk]
    split
    · rename_i hn; exact ok_set h1 (Nat.le_trans (jat_lg hok (hld_lt hn)) (Nat.mul_le_mul_right _ (Nat.le_succ N)))
    · exact h1
  rw [if_neg hk]
  clear hk
  by_cases hk : e.k = 10
  · rw [if_pos hk]
    exact ⟨h1.len, h1.lg, h1.rs, h1.cn, h1.up⟩
  rw [if_neg hk]
  clear hk
  by_cases hk : e.k = 11
  · rw [if_pos hk]
    exact ⟨h1.len, h1.lg, h1.rs, h1.cn, h1.up⟩
  rw [if_neg hk]
  clear hk
  by_cases hk : e.k = 12
  · rw [if_pos hk]
    refine ⟨h1.len, h1.lg, fun k n e1 => ?_, fun k n e1 => ?_, h1.up⟩
    · dsimp only [inc1, upd] at e1
      split at e1
      · injection e1 with e1
        cases hh : h.rs (e.jo, e.ba, e.rt, e.rb) with
        | none => rw [hh] at e1; simp at e1; omega
        | some m => have := hok.rs _ m hh; rw [hh] at e1; simp at e1; omega
      · exact h1.rs k n e1
    · dsimp only [inc2, upd] at e1
      split at e1
      · injection e1 with e1
        cases hh : h.cn (e.jo, e.ba, e.ct) with
        | none => rw [hh] at e1; simp at e1; omega
        | some m => have := hok.cn _ m hh; rw [hh] at e1; simp at e1; omega
      · exact h1.cn k n e1
  rw [if_neg hk]
  clear hk
  by_cases hk : e.k = 13
  · rw [if_pos hk]
    split
    · exact ⟨h1.len, h1.lg, h1.rs, h1.cn, h1.up⟩
    · exact h1
  rw [if_neg hk]
  clear hk
  by_cases hk : e.k = 14
  · rw [if_pos hk]
    have hjo := okE_job hv (by rw [hk]; decide)
    have hi8 := hj8 (by rw [hk]; decide)
    have hji : ((jix e : Nat) : Int) + 1 = e.jo := by unfold jix; omega
    unfold shw
    have hx : (if (knw h (jix e) || nxt h (jix e)) = true then { lt_ h (jix e) ⟨e.st, e.ba, e.rt, e.rb, e.ts⟩ with top := max h.top e.ba } else h).ok (N + 1) := by
      split
      · rename_i hn
        have hle : jix e ≤ h.jobs.length := by
          rcases Bool.or_eq_true _ _ |>.mp hn with hn | hn
          · have : jix e < h.jobs.length := by simpa [knw] using hn
            omega
          · have : jix e = h.jobs.length := by simpa [nxt] using hn
            omega
        have hy := ok_lt h1 hi8 hle (j := ⟨e.st, e.ba, e.rt, e.rb, e.ts⟩) (by dsimp only; omega)
        exact ⟨hy.len, hy.lg, hy.rs, hy.cn, hy.up⟩
      · exact h1
    exact ⟨hx.len, hx.lg, hx.rs, hx.cn, ⟨by dsimp only; omega, by dsimp only; omega⟩⟩
  · rw [if_neg hk]; exact h1
theorem stp_ok {N : Nat} {h : Hs} (hok : h.ok N) {e : Ev} (hv : okE e = true) (ht : e.ts.length ≤ 1048576) : (stp h e).ok (N + 1) := bhd_ok (ok_pre hok e) hv ht
end Go.Proofs.Ytjfgmdiafhkbgaa
