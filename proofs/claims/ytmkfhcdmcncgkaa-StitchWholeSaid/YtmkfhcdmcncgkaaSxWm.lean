import Derived.Test.YtmkfhcdmcncgkaaSxTw
namespace Go.Proofs.Ytmkfhcdmcncgkaa
open Go.RowKit Go.Shelf

/-- texts of one list alone -/
structure Wl (T : List ByteArray) (s : Sw) : Prop where
  ok : s.ok
  all : ∀ x ∈ s.L, x.no < (T.length : Int) ∧ T[x.no.toNat]? = some x.tx
  le : s.nxt ≤ (T.length : Int)
theorem wl_new {a : Int} (h : nok a 0 = true) (T : List ByteArray) : Wl T ⟨a, 0, []⟩ := ⟨ok_new h, fun x hx => (by cases hx), by simp⟩
/-- behind a Take of a text of the list -/
structure WlP (T : List ByteArray) (s : Sw) (k : Nat) (t : ByteArray) : Prop where
  wl : Wl T (s.tk k t)
  len : ((s.out k t).length : Int) = (s.tk k t).nxt - s.nxt
  get : ∀ j u, (s.out k t)[j]? = some u → T[s.nxt.toNat + j]? = some u
  on : s.nxt = (k : Int) → s.nxt < (s.tk k t).nxt
  bad : s.bad k t ≠ 0 → s.out k t = []
theorem Wl.take {T : List ByteArray} {s : Sw} (h : Wl T s) {k : Nat} {t : ByteArray} (hk : T[k]? = some t) (ht : t.size ≤ 32) (h32 : T.length ≤ 32) : WlP T s k t := by
  have hkl : k < T.length := (List.getElem?_eq_some_iff.1 hk).1
  have n0 := h.ok.n0
  by_cases hz : s.bad k t = 0
  · obtain ⟨_, b1, b2, b3⟩ := s.bad_yes hz
    cases hh : has (k : Int) s.L with
    | true =>
      have e1 : s.tk k t = s := by unfold Sw.tk; rw [hz, if_pos rfl, if_pos hh]
      have e2 : s.out k t = [] := by unfold Sw.out; rw [hz, if_pos rfl, if_pos hh]
      refine ⟨by rw [e1]; exact h, by rw [e1, e2]; simp, fun j u hj => ?_, fun e => ?_, fun e => absurd hz e⟩
      · rw [e2] at hj; simp at hj
      · obtain ⟨x, hx, e3⟩ := has_iff.1 hh
        have := (h.ok.all x hx).1
        omega
    | false =>
      have e1 : s.tk k t = ⟨s.win, (s.hand k t).2.1, (s.hand k t).2.2⟩ := by unfold Sw.tk; rw [hz, if_pos rfl, if_neg (by rw [hh]; decide)]
      have e2 : s.out k t = (s.hand k t).1 := by unfold Sw.out; rw [hz, if_pos rfl, if_neg (by rw [hh]; decide)]
      have hp : ∀ x ∈ put ⟨k, t⟩ s.L, s.nxt ≤ x.no ∧ x.no < (T.length : Int) ∧ T[x.no.toNat]? = some x.tx := fun x hx => by
        rcases mem_put.1 hx with rfl | ⟨hx, _⟩
        · exact ⟨b1, by simp only; omega, by simpa using hk⟩
        · have h1 := (h.ok.all x hx).1
          have h2 := h.all x hx
          exact ⟨by omega, h2⟩
      have hP : HndP s.nxt (put ⟨k, t⟩ s.L) (T.length : Int) (s.hand k t) := hnd_post _ (Nat.le_refl _) (put_rise h.ok.rise _) fun x hx => ⟨(hp x hx).1, (hp x hx).2.1⟩
      refine ⟨⟨h.ok.tk k t, fun x hx => ?_, ?_⟩, ?_, fun j u hj => ?_, fun e => ?_, fun e => absurd hz e⟩
      · rw [e1] at hx
        exact (hp x (hP.all x hx).1).2
      · rw [e1]
        have := h.le
        rcases hP.top with h1 | h1
        · simp only; omega
        · exact h1
      · rw [e1, e2]; exact hP.len
      · rw [e2] at hj
        obtain ⟨hj1, hj2⟩ := List.getElem?_eq_some_iff.1 hj
        have h1 := (hp _ (hP.get j hj1)).2.2
        simp only at h1
        rw [hj2] at h1
        rw [show (s.nxt + (j : Int)).toNat = s.nxt.toNat + j by omega] at h1
        exact h1
      · have hy : has s.nxt (put ⟨k, t⟩ s.L) = true := has_iff.2 ⟨⟨k, t⟩, mem_put.2 (.inl rfl), e.symm⟩
        rw [e1]
        have h1 : (s.hand k t).1.length ≠ 0 := by
          unfold Sw.hand
          rw [hnd_yes hy]
          simp
        have h2 := hP.len
        simp only
        omega
  · have e1 : s.tk k t = s := by unfold Sw.tk; rw [if_neg hz]
    have e2 : s.out k t = [] := by unfold Sw.out; rw [if_neg hz]
    refine ⟨by rw [e1]; exact h, by rw [e1, e2]; simp, fun j u hj => ?_, fun e => ?_, fun _ => e2⟩
    · rw [e2] at hj; simp at hj
    · refine absurd ?_ hz
      have := h.ok.w1
      unfold Sw.bad
      rw [if_neg (by omega), if_neg (by omega)]
/-- how far it is -/
def Pg (o N i n : Nat) : Prop := i ≤ o ∨ N ≤ n ∨ ∃ d, d < N ∧ (i + d) % N = n ∧ i + d + (N - n - 1) * N + 1 ≤ o + N * N
theorem pg_d (i : Nat) {N n : Nat} (h : n < N) : ∃ d, d < N ∧ (i + d) % N = n := by
  have h0 : 0 < N := by omega
  have h1 : i % N < N := Nat.mod_lt _ h0
  refine ⟨(n + N - i % N) % N, Nat.mod_lt _ h0, ?_⟩
  have h2 : (i + (n + N - i % N)) % N = n := by
    have e : i + (n + N - i % N) = n + N * (i / N + 1) := by
      have := Nat.div_add_mod i N
      rw [Nat.mul_add, Nat.mul_one]
      omega
    rw [e, Nat.add_mul_mod_self_left, Nat.mod_eq_of_lt h]
  rw [Nat.add_mod, Nat.mod_mod, ← Nat.add_mod]
  exact h2
theorem pg_le {N n n' : Nat} (h : n < n') (h' : n' < N) : (N - n' - 1) * N + N ≤ (N - n - 1) * N := by
  rw [← Nat.succ_mul]
  exact Nat.mul_le_mul_right N (by omega)
theorem Pg.step {o N i n n' k : Nat} (h : Pg o N i n) (h1 : n ≤ n') (h2 : o ≤ i → k = i % N) (h3 : n = k → n < n') (_hi : i < o + N * N) : Pg o N (i + 1) n' := by
  by_cases hio : i < o
  · exact .inl hio
  by_cases hN : N ≤ n'
  · exact .inr (.inl hN)
  have hk := h2 (by omega)
  have hf : ∃ d, d < N ∧ (i + d) % N = n ∧ i + d + (N - n - 1) * N + 1 ≤ o + N * N := by
    rcases h with h | h | h
    · obtain ⟨d, d1, d2⟩ := pg_d i (N := N) (n := n) (by omega)
      refine ⟨d, d1, d2, ?_⟩
      have e : (N - n - 1) * N + N ≤ N * N := by
        rw [← Nat.succ_mul]
        exact Nat.mul_le_mul_right N (by omega)
      omega
    · omega
    · exact h
  obtain ⟨d, d1, d2, d3⟩ := hf
  refine .inr (.inr ?_)
  by_cases hn : n < n'
  · obtain ⟨e, e1, e2⟩ := pg_d (i + 1) (N := N) (n := n') (by omega)
    have := pg_le (N := N) hn (by omega)
    exact ⟨e, e1, e2, by omega⟩
  · have en : n' = n := by omega
    subst en
    have hd : d ≠ 0 := fun e => by
      subst e
      rw [Nat.add_zero] at d2
      exact hn (h3 (d2.symm.trans hk.symm))
    exact ⟨d - 1, by omega, by rw [show i + 1 + (d - 1) = i + d by omega]; exact d2, by omega⟩
theorem Pg.done {o N i n : Nat} (h : Pg o N i n) (hN : 0 < N) (hi : ¬ i < o + N * N) : N ≤ n := by
  have : 0 < N * N := Nat.mul_pos hN hN
  rcases h with h | h | ⟨d, _, _, h⟩
  · omega
  · exact h
  · omega
theorem Wl.end_ {T : List ByteArray} {s : Sw} (h : Wl T s) (he : (T.length : Int) ≤ s.nxt) : s.nxt = (T.length : Int) ∧ s.L = [] := by
  have := h.le
  refine ⟨by omega, ?_⟩
  cases hL : s.L with
  | nil => rfl
  | cons x l =>
    have hx : x ∈ s.L := by rw [hL]; exact .head _
    have := (h.ok.all x hx).1
    have := (h.all x hx).1
    omega
/-- what is held, as the law looks at it -/
theorem Sw.ok.nos {s : Sw} (h : s.ok) {j : Nat} (hj : j < s.L.length) : ∃ z, (Go.Proofs.Ytmkfhcdmcncgkaa.nos s.L)[j]? = some z ∧ s.nxt < z ∧ z < s.nxt + s.win ∧ z < 32 ∧ (0 < j → ∃ y, (Go.Proofs.Ytmkfhcdmcncgkaa.nos s.L)[j - 1]? = some y ∧ y < z) := by
  obtain ⟨a1, a2, a3, _⟩ := h.all _ (List.getElem_mem hj)
  have hlen : (Go.Proofs.Ytmkfhcdmcncgkaa.nos s.L).length = s.L.length := by simp [Go.Proofs.Ytmkfhcdmcncgkaa.nos]
  refine ⟨(s.L[j]).no, by simp [Go.Proofs.Ytmkfhcdmcncgkaa.nos, List.getElem?_eq_getElem hj], a1, a2, a3, fun h0 => ⟨(s.L[j - 1]).no, by simp [Go.Proofs.Ytmkfhcdmcncgkaa.nos, List.getElem?_eq_getElem (show j - 1 < s.L.length by omega)], ?_⟩⟩
  have := List.pairwise_iff_getElem.1 (nos_rise h.rise) (j - 1) j (by omega) (by omega) (by omega)
  simpa [Go.Proofs.Ytmkfhcdmcncgkaa.nos] using this
end Go.Proofs.Ytmkfhcdmcncgkaa
