import Derived.Test.YtabenedaeaocbaaPrE
import Derived.OwnWalk
namespace Go.Proofs.Ytabenedaeaocbaa
open Go.RowKit

theorem Try.infoP : (Try.prog.info? 23).map (fun i => (i.zero, i.size, i.bytes)) = some (some (.pointer none), 1, 8) := by kernel_rfl
theorem Try.infoQ : (Try.prog.info? 29).map (fun i => (i.zero, i.size, i.bytes)) = some (some (.agg #[.string ByteArray.empty, .int .i64 0, .int .i64 0, .int .i64 0]), 4, 40) := by kernel_rfl

theorem own_at {w : World} {base g n cap size : Nat} {e : TypeId} {xs : List Value} (h : w.ownsRow base e size (.slice (some ⟨g, 0, none⟩) n cap) n xs) : ∃ cur, base ≤ g ∧ w.heap[g]? = some (.cells cur e (0, 0)) ∧ n ≤ cap ∧ cap ≤ maxLen ∧ cur.size = cap * size ∧ cur.toList.take (n * size) = xs := by
  rcases h.2 with ⟨h1, _⟩ | ⟨g', cap', cur, h1, hb, hg, h2⟩
  · cases h1
  · injection h1 with e1 e2 e3
    injection e1 with e1
    injection e1 with e1
    subst e1; subst e3
    exact ⟨cur, hb, hg, h2⟩
theorem own_keep {w w' : World} {base g n cap size : Nat} {e : TypeId} {xs : List Value} (h : w.ownsRow base e size (.slice (some ⟨g, 0, none⟩) n cap) n xs) (hs : w'.heap[g]? = w.heap[g]?) : w'.ownsRow base e size (.slice (some ⟨g, 0, none⟩) n cap) n xs := by
  obtain ⟨cur, h1, h2, h3⟩ := own_at h
  exact ⟨h.1, .inr ⟨g, cap, cur, rfl, h1, hs.trans h2, h3⟩⟩
/-- a reader and the document's, in memory -/
structure St where
  B : Nat
  p : Nat
  f : Int
def ptrs (S : List St) : List Value := S.map fun x => .pointer (some ⟨x.B, 0, none⟩)
/-- the cells of the document's readers -/
def RowL (xs : List Value) (b : ByteArray) (S : List St) : Prop := ∀ (j : Nat) (x : St), S[j]? = some x → xs[j * 4]? = some (.string b) ∧ xs[j * 4 + 1]? = some (.int .i64 (x.p : Int)) ∧ xs[j * 4 + 2]? = some (.int .i64 x.f) ∧ xs[j * 4 + 3]? = some (.int .i64 (fa x.p x.f))
structure MemP (base : Nat) (w : World) (gl cl ga ca n : Nat) (b : ByteArray) (S : List St) : Prop where
  len : S.length = n
  lrow : w.ownsRow base 23 1 (.slice (some ⟨gl, 0, none⟩) n cl) n (ptrs S)
  arow : ∃ xs, w.ownsRow base 29 4 (.slice (some ⟨ga, 0, none⟩) n ca) n xs ∧ RowL xs b S
  each : ∀ x ∈ S, Rd w x.B b x.p x.f ∧ x.p ≤ b.size ∧ base ≤ x.B
  sep : ∀ (i j : Nat) (x y : St), S[i]? = some x → S[j]? = some y → i ≠ j → x.B ≠ y.B
section
variable {base : Nat} {w w' : World} {gl cl ga ca n : Nat} {b : ByteArray} {S : List St}
theorem MemP.keep (h : MemP base w gl cl ga ca n b S) (h1 : w'.heap[gl]? = w.heap[gl]?) (h2 : w'.heap[ga]? = w.heap[ga]?) (h3 : ∀ x ∈ S, w'.heap[x.B]? = w.heap[x.B]?) : MemP base w' gl cl ga ca n b S := by
  obtain ⟨xs, hx, hl⟩ := h.arow
  exact ⟨h.len, own_keep h.lrow h1, ⟨xs, own_keep hx h2, hl⟩, fun x hx => ⟨(h3 x hx).trans (h.each x hx).1, (h.each x hx).2⟩, h.sep⟩
theorem MemP.gl_lt (h : MemP base w gl cl ga ca n b S) : gl < w.heap.size := (h.lrow.lt gl rfl).2
theorem MemP.ga_lt (h : MemP base w gl cl ga ca n b S) : ga < w.heap.size := by obtain ⟨xs, hx, _⟩ := h.arow; exact (hx.lt ga rfl).2
theorem MemP.low (h : MemP base w gl cl ga ca n b S) : base ≤ gl ∧ base ≤ ga := ⟨(h.lrow.lt gl rfl).1, by obtain ⟨xs, hx, _⟩ := h.arow; exact (hx.lt ga rfl).1⟩
theorem MemP.ne (h : MemP base w gl cl ga ca n b S) : gl ≠ ga := fun e => by
  obtain ⟨xs, hx, _⟩ := h.arow
  obtain ⟨c1, _, h1, _⟩ := own_at h.lrow
  obtain ⟨c2, _, h2, _⟩ := own_at hx
  rw [e, h2] at h1
  injection h1 with h1
  injection h1 with _ h1
  exact absurd h1 (by decide)
theorem MemP.nl (h : MemP base w gl cl ga ca n b S) {x : St} (hx : x ∈ S) : x.B ≠ gl ∧ x.B ≠ ga := by
  have hr := (h.each x hx).1
  unfold Rd at hr
  refine ⟨fun e => ?_, fun e => ?_⟩
  · obtain ⟨c1, _, h1, _⟩ := own_at h.lrow
    rw [← e, hr] at h1
    injection h1 with h1
    injection h1 with _ h1
    exact absurd h1 (by decide)
  · obtain ⟨xs, ha, _⟩ := h.arow
    obtain ⟨c1, _, h1, _⟩ := own_at ha
    rw [← e, hr] at h1
    injection h1 with h1
    injection h1 with _ h1
    exact absurd h1 (by decide)
theorem MemP.below (h : MemP base w gl cl ga ca n b S) (hb : Below w.heap.size w w') : MemP base w' gl cl ga ca n b S :=
  h.keep (hb.block _ h.gl_lt) (hb.block _ h.ga_lt) fun x hx => hb.block _ (h.each x hx).1.lt
theorem MemP.heap (h : MemP base w gl cl ga ca n b S) (e : w'.heap = w.heap) : MemP base w' gl cl ga ca n b S := h.keep (by rw [e]) (by rw [e]) fun x _ => by rw [e]
theorem MemP.drew (h : MemP base w gl cl ga ca n b S) : MemP base w.drew gl cl ga ca n b S := h.heap rfl
theorem MemP.alloc (h : MemP base w gl cl ga ca n b S) (o : Obj) : MemP base (w.alloc o) gl cl ga ca n b S := h.below ((Below.refl _ w).alloc (Nat.le_refl _) o)
theorem MemP.ptr (h : MemP base w gl cl ga ca n b S) {k : Nat} {x : St} (hx : S[k]? = some x) : w.cell? ⟨gl, k, none⟩ = some (.pointer (some ⟨x.B, 0, none⟩)) := by
  have h1 := h.lrow.cells (g := gl) rfl k (.pointer (some ⟨x.B, 0, none⟩)) (by simp [ptrs, hx])
  rw [Addr.add_lit, Nat.zero_add] at h1
  exact h1
theorem MemP.rr (h : MemP base w gl cl ga ca n b S) {k : Nat} {x : St} (hx : S[k]? = some x) : RR w ga (k * 4) b x.p x.f (fa x.p x.f) := by
  obtain ⟨xs, ha, hl⟩ := h.arow
  obtain ⟨h0, h1, h2, h3⟩ := hl k x hx
  have hc : ∀ j u, xs[j]? = some u → w.cell? ⟨ga, j, none⟩ = some u := fun j u hu => by
    have := ha.cells (g := ga) rfl j u hu
    rw [Addr.add_lit, Nat.zero_add] at this
    exact this
  obtain ⟨cur, _, hb, _⟩ := own_at ha
  exact ⟨⟨cur, hb⟩, hc _ _ h0, hc _ _ h1, hc _ _ h2, hc _ _ h3⟩
theorem mem_set {k : Nat} {x y : St} (h : x ∈ S.set k y) : x = y ∨ x ∈ S := (List.mem_or_eq_of_mem_set h).symm
theorem cell_cur {cur : Array Value} {t : TypeId} {g o : Nat} {u : Value} (h : w.heap[g]? = some (.cells cur t (0, 0))) (hc : w.cell? ⟨g, o, none⟩ = some u) : cur[o]? = some u := by
  simpa [World.cell?, h] using hc
theorem MemP.step (h : MemP base w gl cl ga ca n b S) {k : Nat} {x : St} (hx : S[k]? = some x) {p' : Nat} {f' : Int} (hp : p' ≤ b.size) (hd : Rd w' x.B b p' f') (hr : RR w' ga (k * 4) b p' f' (fa p' f')) (hm : Jm x.B ga (k * 4) w w') : MemP base w' gl cl ga ca n b (S.set k ⟨x.B, p', f'⟩) := by
  have hxm : x ∈ S := List.mem_of_getElem? hx
  have hk : k < S.length := (List.getElem?_eq_some_iff.1 hx).1
  have hlen := h.len
  have getS : ∀ (i : Nat) (z : St), (S.set k ⟨x.B, p', f'⟩)[i]? = some z → (i = k ∧ z = ⟨x.B, p', f'⟩) ∨ (i ≠ k ∧ S[i]? = some z) := fun i z hz => by
    rw [List.getElem?_set] at hz
    split at hz
    · next h1 => injection hz with hz; exact .inl ⟨h1.symm, hz.symm⟩
    · next h1 => exact .inr ⟨fun e => h1 e.symm, hz⟩
  have p1 : ptrs (S.set k ⟨x.B, p', f'⟩) = ptrs S := by
    unfold ptrs
    rw [List.map_set]
    apply List.ext_getElem?
    intro i
    rw [List.getElem?_set]
    split
    · next h1 => subst h1; simp only [List.length_map, hk, if_true, List.getElem?_map, hx, Option.map_some]
    · rfl
  refine ⟨by rw [List.length_set]; exact h.len, ?_, ?_, ?_, ?_⟩
  · rw [p1]
    exact own_keep h.lrow (hm.other gl h.gl_lt (fun e => (h.nl hxm).1 e.symm) h.ne)
  · obtain ⟨xs, ha, hl⟩ := h.arow
    obtain ⟨cur, hb, hg, h1, h2, h3, h4⟩ := own_at ha
    obtain ⟨cur', hg', hs', ho'⟩ := hm.same cur hg
    have hn4 : n * 4 ≤ cur'.size := by rw [hs', h3]; exact Nat.mul_le_mul_right 4 h1
    refine ⟨cur'.toList.take (n * 4), ⟨by rw [List.length_take]; simp; exact Nat.min_eq_left hn4, .inr ⟨ga, ca, cur', rfl, hb, hg', h1, h2, by rw [hs', h3], rfl⟩⟩, fun j z hz => ?_⟩
    have get' : ∀ i, i < n * 4 → (cur'.toList.take (n * 4))[i]? = cur'[i]? := fun i hi => by rw [List.getElem?_take_of_lt hi]; simp
    have get0 : ∀ i, i < n * 4 → xs[i]? = cur[i]? := fun i hi => by rw [← h4, List.getElem?_take_of_lt hi]; simp
    rcases getS j z hz with ⟨rfl, rfl⟩ | ⟨hj, hz⟩
    · rw [get' _ (by omega), get' _ (by omega), get' _ (by omega), get' _ (by omega)]
      exact ⟨cell_cur hg' hr.c0, cell_cur hg' hr.c1, cell_cur hg' hr.c2, cell_cur hg' hr.c3⟩
    · have hjn : j < n := by rw [← h.len]; exact (List.getElem?_eq_some_iff.1 hz).1
      obtain ⟨q0, q1, q2, q3⟩ := hl j z hz
      rw [get0 _ (by omega)] at q0 q1 q2 q3
      rw [get' _ (by omega), get' _ (by omega), get' _ (by omega), get' _ (by omega), ho' _ (by omega), ho' _ (by omega), ho' _ (by omega), ho' _ (by omega)]
      exact ⟨q0, q1, q2, q3⟩
  · intro z hz
    obtain ⟨i, hi⟩ := List.getElem?_of_mem hz
    rcases getS i z hi with ⟨_, rfl⟩ | ⟨hik, hzi⟩
    · exact ⟨hd, hp, (h.each x hxm).2.2⟩
    · have hzm := List.mem_of_getElem? hzi
      exact ⟨(hm.other z.B (h.each z hzm).1.lt (h.sep i k z x hzi hx hik) (h.nl hzm).2).trans (h.each z hzm).1, (h.each z hzm).2⟩
  · intro i j z u hz hu hij
    rcases getS i z hz with ⟨hi, rfl⟩ | ⟨hi, hz'⟩
    · rcases getS j u hu with ⟨hj, rfl⟩ | ⟨hj, hu'⟩
      · exact absurd (hi.trans hj.symm) hij
      · exact fun e => h.sep j k u x hu' hx hj e.symm
    · rcases getS j u hu with ⟨hj, rfl⟩ | ⟨hj, hu'⟩
      · exact h.sep i k z x hz' hx hi
      · exact h.sep i j z u hz' hu' hij

/-- one reader more -/
theorem MemP.more {w1 w2 w4 : World} {g6 c6 g7 c7 p : Nat} {f : Int} {xs : List Value} {o o' : Obj} (h : MemP base w gl cl ga ca n b S) (hbw : base ≤ w.heap.size) (hp : p ≤ b.size)
    (h1 : Below w.heap.size w w1) (hB : Rd w1 w.heap.size b p f)
    (hown6 : w2.ownsRow base 23 1 (.slice (some ⟨g6, 0, none⟩) (n + 1) c6) (n + 1) (ptrs S ++ [.pointer (some ⟨w.heap.size, 0, none⟩)])) (hg6 : (w1.alloc o).grownBy w2 (some gl)) (hat6 : some gl = some g6 ∨ g6 = w1.heap.size + 1)
    (hxs : RowL xs b S) (hxl : xs.length = n * 4)
    (hown7 : w4.ownsRow base 29 4 (.slice (some ⟨g7, 0, none⟩) (n + 1) c7) (n + 1) (xs ++ [.string b, .int .i64 (p : Int), .int .i64 f, .int .i64 (fa p f)])) (hg7 : (w2.alloc o').grownBy w4 (some ga)) :
    MemP base w4 g6 c6 g7 c7 (n + 1) b (S ++ [⟨w.heap.size, p, f⟩]) := by
  have hgl := h.gl_lt
  have hga := h.ga_lt
  have hlen := h.len
  have z1 := h1.size
  have zB := hB.lt
  have z2 : w1.heap.size + 1 ≤ w2.heap.size := by have := hg6.size; rw [World.size_alloc] at this; exact this
  have hg6b : g6 < w2.heap.size := (hown6.lt g6 rfl).2
  have e6 : gl = g6 ∨ g6 = w1.heap.size + 1 := hat6.elim (fun e => .inl (by injection e)) .inr
  have k1 : ∀ k, k < w.heap.size → k ≠ gl → k ≠ ga → w4.heap[k]? = w.heap[k]? := fun k hk n1 n2 => by
    rw [hg7.block k (by rw [World.size_alloc]; omega) (fun e => n2 (by injection e)), Below.heap_alloc w2 _ k (by omega), hg6.block k (by rw [World.size_alloc]; omega) (fun e => n1 (by injection e)), Below.heap_alloc w1 _ k (by omega), h1.block k hk]
  have k2 : w4.heap[w.heap.size]? = w1.heap[w.heap.size]? := by
    rw [hg7.block _ (by rw [World.size_alloc]; omega) (fun e => by injection e with e; omega), Below.heap_alloc w2 _ _ (by omega), hg6.block _ (by rw [World.size_alloc]; omega) (fun e => by injection e with e; omega), Below.heap_alloc w1 _ _ (by omega)]
  have k6 : w4.heap[g6]? = w2.heap[g6]? := by
    have n7 : g6 ≠ ga := by
      rcases e6 with e | e
      · rw [← e]; exact h.ne
      · omega
    rw [hg7.block g6 (by rw [World.size_alloc]; omega) (fun e => n7 (by injection e)), Below.heap_alloc w2 _ g6 hg6b]
  have getS : ∀ (i : Nat) (z : St), (S ++ [(⟨w.heap.size, p, f⟩ : St)])[i]? = some z → S[i]? = some z ∨ (i = S.length ∧ z = ⟨w.heap.size, p, f⟩) := fun i z hz => by
    rw [List.getElem?_append] at hz
    split at hz
    · exact .inl hz
    · next hn =>
      have h0 : i - S.length = 0 := by
        rcases Nat.eq_zero_or_pos (i - S.length) with h0 | h0
        · exact h0
        · rw [List.getElem?_eq_none (by simp; omega)] at hz; cases hz
      rw [h0] at hz
      injection hz with hz
      exact .inr ⟨by omega, hz.symm⟩
  refine ⟨by rw [List.length_append, h.len]; rfl, ?_, ⟨_, hown7, fun j z hz => ?_⟩, ?_, ?_⟩
  · have : ptrs (S ++ [⟨w.heap.size, p, f⟩]) = ptrs S ++ [.pointer (some ⟨w.heap.size, 0, none⟩)] := by simp [ptrs]
    rw [this]; exact own_keep hown6 k6
  · rcases getS j z hz with hz | ⟨hj, rfl⟩
    · have hjn : j < n := by rw [← h.len]; exact (List.getElem?_eq_some_iff.1 hz).1
      rw [List.getElem?_append_left (by omega), List.getElem?_append_left (by omega), List.getElem?_append_left (by omega), List.getElem?_append_left (by omega)]
      exact hxs j z hz
    · have hjn : j = n := by omega
      subst hjn
      rw [List.getElem?_append_right (by omega), List.getElem?_append_right (by omega), List.getElem?_append_right (by omega), List.getElem?_append_right (by omega), hxl, Nat.sub_self, Nat.add_sub_cancel_left, Nat.add_sub_cancel_left, Nat.add_sub_cancel_left]
      exact ⟨rfl, rfl, rfl, rfl⟩
  · intro x hx
    rcases List.mem_append.1 hx with hx | hx
    · exact ⟨(k1 x.B (h.each x hx).1.lt (h.nl hx).1 (h.nl hx).2).trans (h.each x hx).1, (h.each x hx).2⟩
    · simp at hx; subst hx; exact ⟨k2.trans hB, hp, hbw⟩
  · intro i j x y hx hy hij
    rcases getS i x hx with hx | ⟨hi, rfl⟩
    · have q1 := (h.each x (List.mem_of_getElem? hx)).1.lt
      rcases getS j y hy with hy | ⟨hj, rfl⟩
      · exact h.sep i j x y hx hy hij
      · exact fun e => by have e : x.B = w.heap.size := e; omega
    · rcases getS j y hy with hy | ⟨hj, rfl⟩
      · have q1 := (h.each y (List.mem_of_getElem? hy)).1.lt
        exact fun e => by have e : w.heap.size = y.B := e; omega
      · exact absurd (hi.trans hj.symm) hij
end
end Go.Proofs.Ytabenedaeaocbaa
