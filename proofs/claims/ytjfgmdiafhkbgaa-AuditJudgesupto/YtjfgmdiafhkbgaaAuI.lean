import Derived.Test.YtjfgmdiafhkbgaaAuH
namespace Go.Proofs.Ytjfgmdiafhkbgaa
open Go.RowKit Go.MapKept
set_option maxRecDepth 8000

theorem Try.infoSt : (Try.prog.info? 9).map (fun i => (i.zero, i.size, i.bytes)) = some (some (.string ByteArray.empty), 1, 16) := by kernel_rfl
theorem Try.infoJb : (Try.prog.info? 87).map (fun i => (i.zero, i.size, i.bytes)) = some (some (j0.v (.slice none 0 0)), 5, 56) := by kernel_rfl
theorem info_parts {t : TypeId} {z : Option Value} {s b : Nat} (h : (Try.prog.info? t).map (fun i => (i.zero, i.size, i.bytes)) = some (z, s, b)) : ∃ i, Try.prog.info? t = some i ∧ i.zero = z ∧ i.size = s ∧ i.bytes = b := by
  cases hi : Try.prog.info? t with
  | none => rw [hi] at h; cases h
  | some i =>
    rw [hi] at h
    simp only [Option.map_some, Option.some.injEq, Prod.mk.injEq] at h
    exact ⟨i, rfl, h.1, h.2.1, h.2.2⟩
set_option maxHeartbeats 1000000 in
theorem s_clone {w : World} {t : Value} {l : List ByteArray} (h : Tx w t l) (hl : l.length ≤ 1048576) :
    Calls Try.prog 70 #[t] w fun e w' => ∃ t', e = .returned t' ∧ w'.ownsRow w.heap.size 9 1 t' l.length (tcs l) ∧ Below w.heap.size w w' := by
  obtain ⟨i0, hi0, hz0, hz1, hz2⟩ := info_parts Try.infoSt
  obtain ⟨p, cap, rfl, hn, hc⟩ := tx_src h
  cases p with
  | none =>
    have h0 := hn rfl
    have HE : Hid (w.ownsRow w.heap.size 9 1 (.slice none 0 0) l.length (tcs l)) := by
      obtain rfl : l = [] := List.length_eq_zero_iff.1 h0
      exact World.ownsRow_nil _ _ _ _
    generalize l.length = n at *
    subst h0
    have he : ∀ w : World, (binOp .eql 41 (.slice none 0 cap) (.slice none 0 0)).run Try.prog w = .ok (.bool true) w := fun _ => by kernel_rfl
    clear h hn hc
    go_enter Try.func70, Try.ntmps70
    go_wp2
    go_ret
    exact ⟨_, rfl, HE.out, Below.refl _ _⟩
  | some a =>
    have HR := hide (hc a rfl)
    have he : ∀ w : World, (binOp .eql 41 (.slice (some a) l.length cap) (.slice none 0 0)).run Try.prog w = .ok (.bool false) w := fun _ => by kernel_rfl
    clear h hn hc
    go_enter Try.func70, Try.ntmps70
    go_wp2_with (at_builtin; refine wpList_append_own _ rfl _ _ 41 rfl w.heap.size 9 i0 (.string ByteArray.empty) 1 16 Try.underlying41 hi0 hz0 hz1 hz2 rfl (by decide) (.slice (some ⟨w.heap.size, 0, none⟩) 0 0) 0 [] rfl (World.ownsRow_made w #[] 0 (Nat.le_refl _) (by decide) rfl) a l.length cap (tcs l) rfl (tcs_len l) (fun j u hu => Lib.cell?_alloc_some _ (HR.out j u hu)) (tcs_ones l) (by unfold maxLen; omega) (by omega) (by rw [World.size_alloc]; omega) ?_; intro v' w1 hown hgrow hnil)
    go_ret
    rw [Nat.zero_add, List.nil_append] at hown
    exact ⟨_, rfl, hown, ((Below.refl _ w).alloc (Nat.le_refl _) _).grown hgrow (by rw [World.size_alloc]; omega) (fun k hk => by simp only [Value.ownBlock] at hk; injection hk with hk; omega)⟩
theorem grown_refl (w : World) (row : Option Nat) : w.grownBy w row := ⟨rfl, rfl, rfl, Nat.le_refl _, fun _ _ _ => rfl⟩
theorem grown_trans {x y z : World} {row : Option Nat} (h : x.grownBy y row) (k : y.grownBy z row) : x.grownBy z row :=
  ⟨k.os.trans h.os, k.tape.trans h.tape, k.output.trans h.output, Nat.le_trans h.size k.size, fun i hi hr => (k.block i (Nat.lt_of_lt_of_le hi h.size) hr).trans (h.block i hi hr)⟩
theorem pairwise_set {α : Type} {R : α → α → Prop} : ∀ {l : List α} {i : Nat} {y : α}, l.Pairwise R → (∀ m x, m ≠ i → l[m]? = some x → R x y ∧ R y x) → (l.set i y).Pairwise R
  | [], _, _, h, _ => by simp
  | a :: l, 0, y, h, hy => by
    obtain ⟨_, h2⟩ := List.pairwise_cons.1 h
    refine List.pairwise_cons.2 ⟨fun x hx => ?_, h2⟩
    obtain ⟨m, hm⟩ := List.mem_iff_getElem?.1 hx
    exact (hy (m + 1) x (by omega) (by simpa using hm)).2
  | a :: l, i + 1, y, h, hy => by
    obtain ⟨h1, h2⟩ := List.pairwise_cons.1 h
    refine List.pairwise_cons.2 ⟨fun x hx => ?_, pairwise_set h2 fun m x hm he => hy (m + 1) x (by omega) (by simpa using he)⟩
    rcases List.mem_or_eq_of_mem_set hx with hx | rfl
    · exact h1 x hx
    · exact (hy 0 a (by omega) rfl).1
/-- what is known of one is laid down -/
def lt_ (h : Hs) (i : Nat) (j : Jb) : Hs := { h with jobs := if i < h.jobs.length then h.jobs.set i j else h.jobs ++ [j] }
section
variable {w w' : World} {B b : Nat} {h : Hs} {s : Hi}
theorem map_set_fst (L : List (Jb × Value)) (i : Nat) (j : Jb) (v : Value) : (L.set i (j, v)).map Prod.fst = (L.map Prod.fst).set i j := by rw [List.map_set]
/-- one of its jobs is turned, its log ahead of it -/
theorem Hm.put (H : Hm w B b h s) {i g : Nat} {j : Jb} {v0 lv : Value} {x0 : Jb} (hi : s.L[i]? = some (x0, v0)) {n cap : Nat} (hjv : s.jv = .slice (some ⟨g, 0, none⟩) n cap) {row : Option Nat} {w1 w2 : World} (hg1 : w.grownBy w1 row) (hr1 : ∀ k, row = some k → v0.ownBlock = some k)
    (hg2 : w1.grownBy w2 (some g)) (hrow : w2.ownsRow B 87 5 s.jv s.L.length (jcs (s.L.set i (j, lv)))) (hown : w1.ownsRow B 9 1 lv j.lg.length (tcs j.lg)) (hap : ∀ m x, m ≠ i → s.L[m]? = some x → ∀ k, lv.ownBlock = some k → x.2.ownBlock ≠ some k) :
    Hm w2 B b { h with jobs := h.jobs.set i j } { s with L := s.L.set i (j, lv) } ∧ Kt B w w2 := by
  have hx0 := H.logs _ (List.mem_of_getElem? hi)
  have hgg := own_type H.row g (by rw [hjv]; rfl)
  obtain ⟨gc, hgc⟩ := hgg
  obtain ⟨cs, h1, h2, h3⟩ := H.blk
  have hr1t : ∀ k, row = some k → ∃ c, w.heap[k]? = some (.cells c 9 (0, 0)) := fun k e => own_type hx0 k (hr1 k e)
  have hne1 : ∀ {k : Nat} {c : Array Value} {t : TypeId} {r : Nat × Nat}, w.heap[k]? = some (.cells c t r) → t ≠ TS → w1.heap[k]? = w.heap[k]? := fun {k c t r} hk ht => hg1.block k (lt_of_block hk) fun e => by
    obtain ⟨c', hc'⟩ := hr1t k e.symm
    rw [hk] at hc'
    injection hc' with hc'
    injection hc' with _ hc'
    exact ht hc'
  have hgc1 := (hne1 hgc (by decide)).trans hgc
  have hkeep : ∀ {k : Nat} {o : Obj}, w1.heap[k]? = some o → (∀ c r, o ≠ .cells c TJ r) → w2.heap[k]? = w1.heap[k]? := fun {k o} hk ho => hg2.block k (lt_of_block hk) fun e => by
    injection e with e
    rw [e, hgc1] at hk
    injection hk with hk
    exact ho _ _ hk.symm
  have hm1 : ∀ {α β : Type} {K : Mk α β} {m : Nat} {f : α → Option β}, Mq K w m f → Mq K w2 m f := fun {_ _ _ m _} hq => by
    have hq1 := hq.keep (w' := w1) (hg1.block _ hq.lt fun e => by
      obtain ⟨c, hc⟩ := hr1t _ e.symm
      exact hq.ne_cells hc rfl)
    obtain ⟨es, c, hb⟩ := hq1.block
    exact hq1.keep (hkeep hb fun c r e => by cases e)
  have hb1 := (hne1 h1 (by decide)).trans h1
  have hb2 := (hkeep hb1 fun c r e => by injection e with _ e; exact absurd e (by decide)).trans hb1
  have hlog : ∀ m x, m ≠ i → s.L[m]? = some x → w2.ownsRow B 9 1 x.2 x.1.lg.length (tcs x.1.lg) := fun m x hm he => by
    have ho := H.logs _ (List.mem_of_getElem? he)
    have ho1 : w1.ownsRow B 9 1 x.2 x.1.lg.length (tcs x.1.lg) := own_keep ho fun k e => hg1.block k (ho.lt k e).2 fun e2 => by
      have e3 := hr1 k e2.symm
      have hp := List.pairwise_iff_getElem.1 H.apart
      have hl1 := (List.getElem?_eq_some_iff.1 hi).1
      have hl2 := (List.getElem?_eq_some_iff.1 he).1
      have g1 := (List.getElem?_eq_some_iff.1 hi).2
      have g2 := (List.getElem?_eq_some_iff.1 he).2
      rcases Nat.lt_or_gt_of_ne hm with h5 | h5
      · have := hp m i hl2 hl1 h5 k
        rw [g1, g2] at this
        exact this e e3
      · have := hp i m hl1 hl2 h5 k
        rw [g1, g2] at this
        exact this e3 e
    refine own_keep ho1 fun k e => ?_
    obtain ⟨c, hc⟩ := own_type ho1 k e
    exact hkeep hc fun c' r e => by injection e with _ e; exact absurd e (by decide)
  have hlv : w2.ownsRow B 9 1 lv j.lg.length (tcs j.lg) := own_keep hown fun k e => by
    obtain ⟨c, hc⟩ := own_type hown k e
    exact hkeep hc fun c' r e => by injection e with _ e; exact absurd e (by decide)
  refine ⟨⟨⟨cs, hb2, h2, h3⟩, H.lo, H.ne, hm1 H.ch, hm1 H.pc, hm1 H.rs, hm1 H.cn, by simpa using H.l8, by rw [map_set_fst, H.jobs], by simpa using hrow, fun x hx => ?_, ?_⟩, ?_⟩
  · obtain ⟨m, hm⟩ := List.mem_iff_getElem?.1 hx
    rw [List.getElem?_set] at hm
    by_cases him : i = m
    · rw [if_pos him] at hm
      split at hm
      · injection hm with hm
        subst hm
        exact hlv
      · cases hm
    · rw [if_neg him] at hm
      exact hlog m x (Ne.symm him) hm
  · exact pairwise_set H.apart fun m x hm he => ⟨fun k e1 e2 => hap m x hm he k e2 e1, fun k e1 e2 => hap m x hm he k e1 e2⟩
  · refine (Kt.of_grown hg1 fun k e => ?_).trans (Kt.of_grown hg2 fun k e => ?_)
    · obtain ⟨c, hc⟩ := hr1t k e
      exact ⟨own_lo hx0 k (hr1 k e), not_out hc (.inr (.inr rfl))⟩
    · injection e with e
      subst e
      exact ⟨own_lo H.row g (by rw [hjv]; rfl), not_out hgc1 (.inr (.inl rfl))⟩
/-- one job more -/
theorem Hm.push (H : Hm w B b h s) (h7 : h.jobs.length < 8) {w1 : World} {v' : Value} (hg : w.grownBy w1 s.jv.ownBlock) (hrow : w1.ownsRow B 87 5 v' (s.L.length + 1) (jcs s.L ++ j0.cs (.slice none 0 0))) :
    Hm (w1.setCell ⟨b, 0, none⟩ v') B b { h with jobs := h.jobs ++ [j0] } { s with jv := v', L := s.L ++ [(j0, .slice none 0 0)] } ∧ Kt B w (w1.setCell ⟨b, 0, none⟩ v') ∧ w1.frozen? ⟨b, 0, none⟩ = false ∧ w1.cell? ⟨b, 0, none⟩ = some s.jv := by
  obtain ⟨cs, h1, h2, h3⟩ := H.blk
  have hrt : ∀ k, s.jv.ownBlock = some k → ∃ c, w.heap[k]? = some (.cells c 87 (0, 0)) := fun k e => own_type H.row k e
  have hb1 : w1.heap[b]? = some (.cells cs 77 (0, 0)) := (hg.block b (lt_of_block h1) fun e => by
    obtain ⟨c, hc⟩ := hrt b e.symm
    rw [h1] at hc
    injection hc with hc
    injection hc with _ hc
    exact absurd hc (by decide)).trans h1
  have hset : ∀ k, k ≠ b → (w1.setCell ⟨b, 0, none⟩ v').heap[k]? = w1.heap[k]? := fun k hk => by simp [World.setCell, Array.getElem?_modify, Ne.symm hk]
  have hm : ∀ {α β : Type} {K : Mk α β} {m : Nat} {f : α → Option β}, Mq K w m f → Mq K (w1.setCell ⟨b, 0, none⟩ v') m f := fun {_ _ _ m _} hq => by
    have hq1 := hq.keep (w' := w1) (hg.block _ hq.lt fun e => by
      obtain ⟨c, hc⟩ := hrt _ e.symm
      exact hq.ne_cells hc rfl)
    exact hq1.keep (hset _ (hq1.ne_cells hb1))
  have hty : ∀ {e : TypeId} {size n base : Nat} {u : Value} {xs : List Value}, w1.ownsRow base e size u n xs → e ≠ TH → (w1.setCell ⟨b, 0, none⟩ v').ownsRow base e size u n xs := fun ho hne => own_keep ho fun k e => hset k fun e1 => by
    obtain ⟨c, hc⟩ := own_type ho k e
    rw [e1, hb1] at hc
    injection hc with hc
    injection hc with _ hc
    exact hne hc.symm
  have hlog : ∀ x ∈ s.L, w1.ownsRow B 9 1 x.2 x.1.lg.length (tcs x.1.lg) := fun x hx => own_keep (H.logs x hx) fun k e => hg.block k ((H.logs x hx).lt k e).2 fun e2 => own_apart (H.logs x hx) H.row (by decide) k e e2.symm
  refine ⟨⟨⟨cs.setIfInBounds 0 v', heap_setCell_same w1 b 0 cs _ v' hb1, by simpa using h2, fun o ho => ?_⟩, H.lo, H.ne, hm H.ch, hm H.pc, hm H.rs, hm H.cn, by simp; omega, by simp [H.jobs], ?_, fun x hx => ?_, ?_⟩, ?_, ?_, ?_⟩
  · rw [Array.getElem?_setIfInBounds]
    by_cases ho0 : 0 = o
    · subst ho0
      rw [if_pos rfl, if_pos (by omega)]
      rfl
    · rw [if_neg ho0, h3 o ho]
      rcases lt26 ho with rfl|rfl|rfl|rfl|rfl|rfl|rfl|rfl|rfl|rfl|rfl|rfl|rfl|rfl|rfl|rfl|rfl|rfl|rfl|rfl|rfl|rfl|rfl|rfl|rfl|rfl <;> first | rfl | exact absurd rfl ho0
  · rw [List.length_append, jcs_app]
    exact hty hrow (by decide)
  · rcases List.mem_append.1 hx with hx | hx
    · exact hty (hlog x hx) (by decide)
    · simp at hx
      subst hx
      exact World.ownsRow_nil _ _ _ _
  · refine List.pairwise_append.2 ⟨H.apart, by simp, fun x _ y hy k _ => ?_⟩
    simp at hy
    subst hy
    intro e
    cases e
  · refine (Kt.of_grown hg fun k e => ?_).trans (Kt.of_grown (grown_set w1 b 0 v') fun k e => ?_)
    · obtain ⟨c, hc⟩ := hrt k e
      exact ⟨own_lo H.row k e, not_out hc (.inr (.inl rfl))⟩
    · injection e with e
      subst e
      exact ⟨H.lo.1, not_out hb1 (.inl rfl)⟩
  · simp [World.frozen?, hb1]
  · have := h3 0 (by decide)
    simp only [World.cell?, hb1]
    simpa [hc] using this
end
end Go.Proofs.Ytjfgmdiafhkbgaa
