import Derived.Test.YtjpcghkdedldiaaLsK
namespace Go.Proofs.Ytjpcghkdedldiaa

/-- two rising lists of the same members are one -/
theorem rise_ext : ∀ {A B : List Lz}, Rise A → Rise B → (∀ x, x ∈ A ↔ x ∈ B) → A = B
  | [], [], _, _, _ => rfl
  | [], b :: B, _, _, h => by have := (h b).2 (.head _); cases this
  | a :: A, [], _, _, h => by have := (h a).1 (.head _); cases this
  | a :: A, b :: B, hA, hB, h => by
    obtain ⟨a1, a2⟩ := List.pairwise_cons.1 hA
    obtain ⟨b1, b2⟩ := List.pairwise_cons.1 hB
    have e : a = b := by
      rcases List.mem_cons.1 ((h a).1 (.head _)) with h1 | h1
      · exact h1
      · rcases List.mem_cons.1 ((h b).2 (.head _)) with h2 | h2
        · exact h2.symm
        · have := b1 a h1; have := a1 b h2; omega
    subst e
    congr 1
    refine rise_ext a2 b2 fun x => ⟨fun hx => ?_, fun hx => ?_⟩
    · rcases List.mem_cons.1 ((h x).1 (.tail _ hx)) with e | h1
      · subst e; have := a1 x hx; omega
      · exact h1
    · rcases List.mem_cons.1 ((h x).2 (.tail _ hx)) with e | h1
      · subst e; have := b1 x hx; omega
      · exact h1

/-- what may stand -/
structure Ok (T : Int) (L : List Lz) : Prop where
  rise : Rise L
  jobs : ∀ x ∈ L, ∀ y ∈ L, x.job = y.job → x = y
  rng : ∀ x ∈ L, 1 ≤ x.job ∧ x.job ≤ 8 ∧ 1 ≤ x.bdg ∧ x.bdg ≤ 1099511627776 ∧ 1 ≤ x.left ∧ x.left ≤ T
theorem ok_nil (T : Int) : Ok T [] := ⟨.nil, fun x hx => (by cases hx), fun x hx => (by cases hx)⟩
theorem few : ∀ (n : Nat) (l : List Nat), l.Nodup → (∀ x ∈ l, x < n) → l.length ≤ n
  | 0, l, _, h => by
    cases l with
    | nil => exact Nat.le_refl _
    | cons a l => exact absurd (h a (.head _)) (by omega)
  | n + 1, l, hn, h => by
    by_cases hm : n ∈ l
    · have h1 := few n (l.erase n) (hn.erase n) (fun x hx => by
        have h2 := h x (List.mem_of_mem_erase hx)
        have h3 : x ≠ n := fun e => by subst e; exact (hn.mem_erase_iff.1 hx).1 rfl
        omega)
      have h2 := List.length_erase_of_mem hm
      omega
    · exact Nat.le_succ_of_le (few n l hn fun x hx => by have := h x hx; have : x ≠ n := fun e => by subst e; exact hm hx
                                                         omega)
theorem Ok.len {T : Int} {L : List Lz} (h : Ok T L) : L.length ≤ 8 := by
  have h1 := few 8 (L.map fun x => x.job.toNat - 1) (by
    unfold List.Nodup
    rw [List.pairwise_map]
    refine List.Pairwise.imp_of_mem ?_ h.rise
    intro a b ha hb hab e
    have r1 := h.rng a ha
    have r2 := h.rng b hb
    have := h.jobs a ha b hb (by omega)
    subst this
    omega) (fun x hx => by
    obtain ⟨y, hy, rfl⟩ := List.mem_map.1 hx
    have := h.rng y hy
    omega)
  simpa using h1
theorem Ok.len12 {T : Int} {L : List Lz} (h : Ok T L) : L.length ≤ 12 := by have := h.len; omega
theorem Ok.left {T : Int} {L : List Lz} (h : Ok T L) (hT : T ≤ 256) : ∀ x ∈ L, 1 ≤ x.left ∧ x.left ≤ 256 := fun x hx => by have := h.rng x hx; omega
theorem thr_false {j g : Int} {L : List Lz} (h : thr j g L = false) : ∀ x ∈ L, x.job ≠ j ∧ x.bdg ≠ g := fun x hx => by
  have := List.any_eq_false.1 h x hx
  simpa using this
theorem Ok.puts {T : Int} {L : List Lz} (h : Ok T L) {x : Lz} (hj : ∀ y ∈ L, y.job = x.job → y.bdg = x.bdg) (hr : 1 ≤ x.job ∧ x.job ≤ 8 ∧ 1 ≤ x.bdg ∧ x.bdg ≤ 1099511627776 ∧ 1 ≤ x.left ∧ x.left ≤ T) : Ok T (put x L) := by
  refine ⟨put_rise h.rise x, fun a ha b hb e => ?_, fun a ha => ?_⟩
  · rcases mem_put.1 ha with ea | ⟨ha, hna⟩
    · rcases mem_put.1 hb with eb | ⟨hb, hnb⟩
      · rw [ea, eb]
      · exact absurd (hj b hb (by rw [← e, ea])) hnb
    · rcases mem_put.1 hb with eb | ⟨hb, _⟩
      · exact absurd (hj a ha (by rw [e, eb])) hna
      · exact h.jobs a ha b hb e
  · rcases mem_put.1 ha with rfl | ⟨ha, _⟩
    · exact hr
    · exact h.rng a ha
theorem Ok.dels {T : Int} {L : List Lz} (h : Ok T L) (g : Int) : Ok T (del g L) :=
  ⟨del_rise h.rise g, fun a ha b hb => h.jobs a (mem_del.1 ha).1 b (mem_del.1 hb).1, fun a ha => h.rng a (mem_del.1 ha).1⟩
/-- what Renew makes -/
def rnw (T g : Int) (L : List Lz) : List Lz := L.map fun x => if x.bdg = g then { x with left := T } else x
theorem rnw_rise {T g : Int} {L : List Lz} (h : Rise L) : Rise (rnw T g L) := by
  unfold Rise rnw
  rw [List.pairwise_map]
  refine h.imp fun {a b} hab => ?_
  have e : ∀ x : Lz, (if x.bdg = g then { x with left := T } else x).bdg = x.bdg := fun x => by split <;> rfl
  rw [e, e]
  exact hab
theorem put_rnw {T g : Int} {L : List Lz} (h : Rise L) (hg : has g L = true) : put { fnd g L with left := T } L = rnw T g L := by
  obtain ⟨h1, h2⟩ := fnd_mem hg
  refine rise_ext (put_rise h _) (rnw_rise h) fun x => ?_
  rw [mem_put]
  unfold rnw
  rw [List.mem_map]
  constructor
  · rintro (rfl | ⟨hx, hn⟩)
    · exact ⟨_, h1, if_pos h2⟩
    · exact ⟨x, hx, if_neg (fun e => hn (by rw [e, h2]))⟩
  · rintro ⟨y, hy, rfl⟩
    by_cases hyg : y.bdg = g
    · rw [if_pos hyg]
      left
      rw [← rise_one h hy h1 (by rw [hyg, h2])]
    · rw [if_neg hyg]
      exact .inr ⟨hy, fun e => hyg (by rw [e, h2])⟩
theorem Ok.rnws {T : Int} {L : List Lz} (h : Ok T L) (hT : 1 ≤ T) {g : Int} (hg : has g L = true) : Ok T (rnw T g L) := by
  obtain ⟨h1, h2⟩ := fnd_mem hg
  rw [← put_rnw h.rise hg]
  have hr := h.rng _ h1
  exact h.puts (fun y hy e => by rw [h.jobs y hy _ h1 e]) ⟨hr.1, hr.2.1, hr.2.2.1, hr.2.2.2.1, hT, Int.le_refl _⟩
/-- what Grant makes -/
theorem Ok.grant {T : Int} {L : List Lz} (h : Ok T L) (hT : 1 ≤ T) {j g n l : Int} (hj1 : 1 ≤ j) (hj2 : j ≤ 8) (hg1 : 1 ≤ g) (hg2 : g ≤ 1099511627776) (ht : thr j g L = false) : Ok T (put ⟨j, g, n, l, T⟩ L) :=
  h.puts (fun y hy e => absurd e ((thr_false ht) y hy).1) ⟨hj1, hj2, hg1, hg2, hT, Int.le_refl _⟩
theorem del_none {g : Int} {L : List Lz} (h : ∀ x ∈ L, x.bdg ≠ g) : del g L = L := List.filter_eq_self.2 fun x hx => by simpa using h x hx
theorem Ok.room {T : Int} {L : List Lz} (h : Ok T L) (hT : 1 ≤ T) {j g : Int} (hj1 : 1 ≤ j) (hj2 : j ≤ 8) (hg1 : 1 ≤ g) (hg2 : g ≤ 1099511627776) : thr j g L = false → L.length < 8 := fun ht => by
  have h1 := (h.grant (n := 0) (l := 0) hT hj1 hj2 hg1 hg2 ht).len
  unfold put at h1
  rw [ins_len, del_none (fun x hx => ((thr_false ht) x hx).2)] at h1
  omega

/-- what a tick leaves -/
def tkL (L : List Lz) : List Lz := (L.filter fun x => decide (1 < x.left)).map dec
theorem dec_bdg (x : Lz) : (dec x).bdg = x.bdg := rfl
theorem tkL_rise {L : List Lz} (h : Rise L) : Rise (tkL L) := by
  unfold Rise tkL
  rw [List.pairwise_map]
  exact h.filter _
theorem mem_tkL {L : List Lz} {x : Lz} : x ∈ tkL L ↔ ∃ y ∈ L, 1 < y.left ∧ x = dec y := by
  unfold tkL
  rw [List.mem_map]
  constructor
  · rintro ⟨y, hy, rfl⟩
    obtain ⟨h1, h2⟩ := List.mem_filter.1 hy
    exact ⟨y, h1, by simpa using h2, rfl⟩
  · rintro ⟨y, h1, h2, rfl⟩
    exact ⟨y, List.mem_filter.2 ⟨h1, by simpa using h2⟩, rfl⟩
theorem tk1_rise {M : List Lz} (h : Rise M) (x : Lz) : Rise (tk1 M x) := by
  unfold tk1
  split
  · exact put_rise h _
  · exact del_rise h _
theorem tk_fold : ∀ (R P M : List Lz), Rise M → Rise (P ++ R) → (∀ x, x ∈ M ↔ (∃ y ∈ P, 1 < y.left ∧ x = dec y) ∨ x ∈ R) → Rise (R.foldl tk1 M) ∧ ∀ x, x ∈ R.foldl tk1 M ↔ ∃ y ∈ P ++ R, 1 < y.left ∧ x = dec y
  | [], P, M, hM, _, h => ⟨hM, fun x => by rw [List.foldl_nil, h x]; simp⟩
  | r :: R, P, M, hM, hR, h => by
    have hR' : Rise ((P ++ [r]) ++ R) := by rw [List.append_assoc]; exact hR
    have hlt : ∀ y ∈ P, y.bdg < r.bdg := fun y hy => by
      have := List.pairwise_append.1 hR
      exact this.2.2 y hy r (.head _)
    have hgt : ∀ y ∈ R, r.bdg < y.bdg := fun y hy => by
      have := (List.pairwise_append.1 hR).2.1
      exact (List.pairwise_cons.1 this).1 y hy
    have ih := tk_fold R (P ++ [r]) (tk1 M r) (tk1_rise hM r) hR' (fun x => ?_)
    · rw [List.foldl_cons]
      refine ⟨ih.1, fun x => ?_⟩
      rw [ih.2 x, List.append_assoc]
      rfl
    · unfold tk1
      have key : (x ∈ M ∧ x.bdg ≠ r.bdg) ↔ (∃ y ∈ P, 1 < y.left ∧ x = dec y) ∨ x ∈ R := by
        rw [h x]
        constructor
        · rintro ⟨h1 | h1, h2⟩
          · exact .inl h1
          · rcases List.mem_cons.1 h1 with rfl | h1
            · exact absurd rfl h2
            · exact .inr h1
        · rintro (⟨y, hy, h1, rfl⟩ | h1)
          · exact ⟨.inl ⟨y, hy, h1, rfl⟩, by rw [dec_bdg]; have := hlt y hy; omega⟩
          · exact ⟨.inr (.tail _ h1), by have := hgt x h1; omega⟩
      split
      · rename_i h1
        rw [mem_put, dec_bdg, key]
        constructor
        · rintro (rfl | ⟨y, hy, h2, rfl⟩ | h2)
          · exact .inl ⟨r, by simp, h1, rfl⟩
          · exact .inl ⟨y, by simp [hy], h2, rfl⟩
          · exact .inr h2
        · rintro (⟨y, hy, h2, rfl⟩ | h2)
          · rcases List.mem_append.1 hy with hy | hy
            · exact .inr (.inl ⟨y, hy, h2, rfl⟩)
            · rw [List.mem_singleton.1 hy]; exact .inl rfl
          · exact .inr (.inr h2)
      · rename_i h1
        rw [mem_del, key]
        constructor
        · rintro (⟨y, hy, h2, rfl⟩ | h2)
          · exact .inl ⟨y, by simp [hy], h2, rfl⟩
          · exact .inr h2
        · rintro (⟨y, hy, h2, rfl⟩ | h2)
          · rcases List.mem_append.1 hy with hy | hy
            · exact .inl ⟨y, hy, h2, rfl⟩
            · rw [List.mem_singleton.1 hy] at h2; exact absurd h2 h1
          · exact .inr h2
theorem tkM_eq {L : List Lz} (h : Rise L) : tkM L L = tkL L := by
  obtain ⟨h1, h2⟩ := tk_fold L [] L h h (fun x => by simp)
  refine rise_ext h1 (tkL_rise h) fun x => ?_
  rw [mem_tkL]
  exact h2 x
theorem Ok.tick {T : Int} {L : List Lz} (h : Ok T L) : Ok T (tkL L) := by
  refine ⟨tkL_rise h.rise, fun a ha b hb e => ?_, fun a ha => ?_⟩
  · obtain ⟨x, hx, _, rfl⟩ := mem_tkL.1 ha
    obtain ⟨y, hy, _, rfl⟩ := mem_tkL.1 hb
    rw [h.jobs x hx y hy e]
  · obtain ⟨x, hx, h1, rfl⟩ := mem_tkL.1 ha
    have := h.rng x hx
    refine ⟨this.1, this.2.1, this.2.2.1, this.2.2.2.1, ?_, ?_⟩
    · show 1 ≤ x.left - 1; omega
    · show x.left - 1 ≤ T; omega
end Go.Proofs.Ytjpcghkdedldiaa
