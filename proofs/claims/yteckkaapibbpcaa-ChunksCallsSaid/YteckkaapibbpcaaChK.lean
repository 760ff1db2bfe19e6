import Derived.Test.YteckkaapibbpcaaChJ
namespace Go.Proofs.Yteckkaapibbpcaa
open Go.RowKit

theorem four_k {w : World} {Y : Nat} {a b c d : Value} {t : TypeId} (h : w.heap[Y]? = some (.cells #[a, b, c, d] t (0, 0))) : w.cell? ⟨Y, 0, none⟩ = some a := by simp [World.cell?, h]
theorem four_n {w : World} {Y : Nat} {a b c d : Value} {t : TypeId} (h : w.heap[Y]? = some (.cells #[a, b, c, d] t (0, 0))) : w.cell? ⟨Y, 2, none⟩ = some c := by simp [World.cell?, h]
theorem four_t {w : World} {Y : Nat} {a b c d : Value} {t : TypeId} (h : w.heap[Y]? = some (.cells #[a, b, c, d] t (0, 0))) : w.cell? ⟨Y, 3, none⟩ = some d := by simp [World.cell?, h]
section
variable {B : Nat} {w w1 w2 : World} {p : Pr} {t : ByteArray} {Y : Nat} {bx : Array Value}
theorem box_on {cs : Array Value} {b : Nat} (hY : w.heap[Y]? = some (.cells bx 34 (0, 0))) (hb : w.heap[b]? = some (.cells cs 53 (0, 0))) (ho : On b w w1) : w1.heap[Y]? = some (.cells bx 34 (0, 0)) := (ho.block Y (lt_of_block hY) (blk_ne hY hb (by decide))).trans hY
theorem box_onx {cs : Array Value} {b : Nat} (hY : w.heap[Y]? = some (.cells bx 34 (0, 0))) (hb : w.heap[b]? = some (.cells cs 37 (0, 0))) (ho : On b w w1) : w1.heap[Y]? = some (.cells bx 34 (0, 0)) := (ho.block Y (lt_of_block hY) (blk_ne hY hb (by decide))).trans hY
theorem fr_put (h : One B w p) (hp : PutP p.b p.s t p.ad p.cap p.X p.o w w1) : Fr p w w1 := by
  rcases hp with ⟨_, m, rfl⟩ | ⟨_, ad', cap', X', o', hs', hF⟩
  · exact Fr.of_below (below_drewN (Below.refl _ w) m) fun hs => h.sb.rs.lt hs.pos
  · rcases hF with ⟨h1, _, _, _, _, hP⟩ | ⟨h1, hO⟩
    · exact Fr.of_pt hP h1
    · exact (Fr.refl h).onb hO fun hs => ⟨h.sb.rs.lt hs.pos, h.Xb hs.pos⟩
theorem box_put (h : One B w p) (hY : w.heap[Y]? = some (.cells bx 34 (0, 0))) (hp : PutP p.b p.s t p.ad p.cap p.X p.o w w1) : w1.heap[Y]? = some (.cells bx 34 (0, 0)) := ((fr_put h hp).other h hY (by decide) (by decide) (by decide)).trans hY
theorem x_put (hp : PutP p.b p.s t p.ad p.cap p.X p.o w w1) {j : Nat} (hj : j < w.heap.size) (h1 : j ≠ p.b) (h2 : p.sp → j ≠ p.X) : w1.heap[j]? = w.heap[j]? := by
  rcases hp with ⟨_, m, rfl⟩ | ⟨_, ad', cap', X', o', hs', hF⟩
  · rfl
  · rcases hF with ⟨k1, _, _, _, _, hP⟩ | ⟨k1, hO⟩
    · exact hP.block j hj h1 (h2 k1)
    · exact hO.block j hj h1
theorem rb_put (h : One B w p) (hp : PutP p.b p.s t p.ad p.cap p.X p.o w w1) : Rb w1 p.x p.s p.T p.adx p.capx p.Xx p.ox := by
  refine ⟨(x_put hp h.rb.lt (Ne.symm h.bx) (fun hs => Ne.symm (h.Xx_ hs.pos))).trans h.rb.cb, h.rb.rs.keep fun h0 => x_put hp (h.rb.rs.lt h0) (h.Xxb h0) (fun hs => Ne.symm (h.sep hs.pos h0)), h.rb.hi⟩
/-- both have put -/
theorem put_whole (h : One B w p) (hp : PutP p.b p.s t p.ad p.cap p.X p.o w w1) (hr : RPut p.x p.s p.T t w1 w2) : ∃ p', One B w2 p' ∧ Fr p w w2 ∧ Nx w p p' := by
  have hf := fr_put h hp
  have hrb := rb_put h hp
  have hXl : p.sp → p.X < w.heap.size := fun hs => h.sb.rs.lt hs.pos
  have hBw : B ≤ w.heap.size := by have := h.lb; have := h.sb.lt; omega
  rcases hr with ⟨hn, rfl⟩ | ⟨hy, adx', capx', Xx', ox', hr', hXx, hO2⟩
  · rcases hp with ⟨_, m, rfl⟩ | ⟨h0, _⟩
    · exact ⟨p, h.drewN m, hf, Nx.same rfl rfl rfl rfl rfl rfl rfl rfl⟩
    · exact absurd h0 hn
  · rcases hp with ⟨h0, _⟩ | ⟨_, ad', cap', X', o', hs', hF⟩
    · exact absurd hy h0
    · have hX'b : 0 < cap' → X' ≠ p.x := fun h0 => by
        obtain ⟨cur, hc, _⟩ := hs'.rs.blk h0
        exact blk_ne hc hrb.cb (by decide)
      have hX1 : 0 < cap' → X' < w1.heap.size := hs'.rs.lt
      have hs2 := hs'.on hO2 h.bx hX'b
      refine ⟨⟨p.b, p.x, p.s.add t, p.T ++ [t], ad', cap', X', o', adx', capx', Xx', ox'⟩, ⟨?_, hs2, hr', h.lb, h.lx, ?_, ?_⟩, hf.onx hO2 (fun hs => ⟨hXl hs, h.Xx_ hs.pos⟩), ⟨rfl, rfl, ?_, ?_⟩⟩
      · have := Sn.put_ok h.ok t
        rw [Sn.put_yes hy] at this
        exact this
      · intro h0
        rcases hF with ⟨k1, _, k3, k4, _, _⟩ | ⟨k1, _⟩
        · show B ≤ X'
          rw [k4]
          exact h.lX (by omega)
        · show B ≤ X'
          omega
      · intro h0 h1
        have h2 := hXx h1
        have h3 := hX1 h0
        show X' ≠ Xx'
        omega
      · rcases hF with ⟨k1, _, k3, k4, k5, _⟩ | ⟨k1, _⟩
        · refine .inr (.inr ⟨k4, by show 0 < p.cap; omega, fun _ => k1, .inr ⟨k1, ?_⟩⟩)
          show o' + (p.s.R ++ [t]).length = p.o + p.s.R.length + 1
          rw [k5, List.length_append]
          rfl
        · exact .inr (.inl k1)
      · rcases Nat.eq_zero_or_pos capx' with h0 | h0
        · exact .inl h0
        · have := hf.size
          have := hXx h0
          exact .inr (.inl (by show w.heap.size ≤ Xx'; omega))
/-- both were acked -/
theorem ack_whole {k : Int} (h : One B w p) (hp : (p.s.ackB k = false ∧ w1 = w) ∨ (p.s.ackB k = true ∧ ∃ ad', Sb w1 p.b (p.s.ack k) ad' (p.s.R.length - (k.toNat - p.s.go)) p.X (p.o + (k.toNat - p.s.go)))) (ho : On p.b w w1) (hr : Rb w2 p.x (p.s.ack k) p.T p.adx p.capx p.Xx p.ox) (hO2 : On p.x w1 w2) : ∃ p', One B w2 p' ∧ Fr p w w2 ∧ Nx w p p' := by
  have hXl : p.sp → p.X < w.heap.size := fun hs => h.sb.rs.lt hs.pos
  have hF : Fr p w w2 := ((Fr.refl h).onb ho fun hs => ⟨hXl hs, h.Xb hs.pos⟩).onx hO2 fun hs => ⟨hXl hs, h.Xx_ hs.pos⟩
  rcases hp with ⟨hn, rfl⟩ | ⟨hy, ad', hs'⟩
  · have e1 : p.s.ack k = p.s := by unfold Sn.ack; rw [hn]; rfl
    rw [e1] at hr
    exact ⟨p, ⟨h.ok, h.sb.on hO2 h.bx (fun h0 => h.Xx_ h0), hr, h.lb, h.lx, h.lX, h.sep⟩, hF, Nx.same rfl rfl rfl rfl rfl rfl rfl rfl⟩
  · have hle := h.sb.rs.le
    have hlen : (p.s.ack k).R.length = p.s.R.length - (k.toNat - p.s.go) := by rw [Sn.ack_yes hy, List.length_drop]
    have h3 := Sn.ackB_iff.mp hy
    have h4 := h.ok.we2
    refine ⟨⟨p.b, p.x, p.s.ack k, p.T, ad', p.s.R.length - (k.toNat - p.s.go), p.X, p.o + (k.toNat - p.s.go), p.adx, p.capx, p.Xx, p.ox⟩, ⟨Sn.ack_ok h.ok k, hs'.on hO2 h.bx (fun h0 => h.Xx_ (by omega)), hr, h.lb, h.lx, fun h0 => h.lX (by have h1 : 0 < p.s.R.length - (k.toNat - p.s.go) := h0; omega), fun h0 h1 => h.sep (by have h2 : 0 < p.s.R.length - (k.toNat - p.s.go) := h0; omega) h1⟩, hF, ⟨rfl, rfl, ?_, ?_⟩⟩
    · rcases Nat.eq_zero_or_pos (p.s.R.length - (k.toNat - p.s.go)) with h0 | h0
      · exact .inl h0
      · refine .inr (.inr ⟨rfl, by omega, fun hs => ?_, .inl ?_⟩)
        · have h5 : (p.s.ack k).R.length < p.s.R.length - (k.toNat - p.s.go) := hs
          omega
        · show p.o + (k.toNat - p.s.go) + (p.s.ack k).R.length = p.o + p.s.R.length
          omega
    · rcases Nat.eq_zero_or_pos p.capx with h0 | h0
      · exact .inl h0
      · exact .inr (.inr ⟨rfl, h0⟩)
theorem tick_whole (h : One B w p) (hs : Sb w1 p.b p.s.tick p.ad p.cap p.X p.o) (ho : On p.b w w1) (hr : Rb w2 p.x p.s.tick p.T p.adx p.capx p.Xx p.ox) (hO2 : On p.x w1 w2) : ∃ p', One B w2 p' ∧ Fr p w w2 ∧ Nx w p p' := by
  have hXl : p.sp → p.X < w.heap.size := fun hs => h.sb.rs.lt hs.pos
  exact ⟨⟨p.b, p.x, p.s.tick, p.T, p.ad, p.cap, p.X, p.o, p.adx, p.capx, p.Xx, p.ox⟩, ⟨Sn.tick_ok h.ok, hs.on hO2 h.bx (fun h0 => h.Xx_ h0), hr, h.lb, h.lx, h.lX, h.sep⟩, ((Fr.refl h).onb ho fun hs => ⟨hXl hs, h.Xb hs.pos⟩).onx hO2 fun hs => ⟨hXl hs, h.Xx_ hs.pos⟩, Nx.same rfl rfl rfl rfl rfl rfl rfl rfl⟩
theorem box_rput {cs : Array Value} (hr : w.heap[p.x]? = some (.cells cs 37 (0, 0))) (hY : w.heap[Y]? = some (.cells bx 34 (0, 0))) (hp : RPut p.x p.s p.T t w w1) : w1.heap[Y]? = some (.cells bx 34 (0, 0)) := by
  rcases hp with ⟨_, rfl⟩ | ⟨_, _, _, _, _, _, _, hO⟩
  · exact hY
  · exact box_onx hY hr hO
theorem Nx.pre {ob : Obj} {p' : Pr} (h : Nx (w.alloc ob) p p') : Nx w p p' := by
  refine ⟨h.b, h.x, ?_, ?_⟩
  · rcases h.X with k | k | k
    · exact .inl k
    · rw [World.size_alloc] at k; exact .inr (.inl (by omega))
    · exact .inr (.inr k)
  · rcases h.Xx with k | k | k
    · exact .inl k
    · rw [World.size_alloc] at k; exact .inr (.inl (by omega))
    · exact .inr (.inr k)
theorem TP.pre {ob : Obj} (ho : One B w p) (h : ∃ p', One B w1 p' ∧ Fr p (w.alloc ob) w1 ∧ Nx (w.alloc ob) p p') : ∃ p', One B w1 p' ∧ Fr p w w1 ∧ Nx w p p' := by
  obtain ⟨p', h1, h2, h3⟩ := h
  exact ⟨p', h1, h2.pre_alloc (fun hs => ho.sb.rs.lt hs.pos), h3.pre⟩
end
structure Oq where
  k : Int
  on : Int
  n : Int
  tx : ByteArray
set_option maxHeartbeats 8000000 in
set_option maxRecDepth 8000 in
theorem does_any {B : Nat} {w : World} {p : Pr} (h : One B w p) (q : Oq) (hq : -9223372036854775808 ≤ q.n ∧ q.n ≤ 9223372036854775807) :
    Calls Try.prog 10 #[.pointer (some ⟨p.b, 0, none⟩), .pointer (some ⟨p.x, 0, none⟩), .agg #[.int .i64 q.k, .int .i64 q.on, .int .i64 q.n, .string q.tx]] w (TP B p w) := by
  have HH := hide h
  have HQ6 := hide hq
  have HTP : Hid (∀ w1, (∃ p', One B w1 p' ∧ Fr p (w.alloc (.cells #[.int .i64 q.k, .int .i64 q.on, .int .i64 q.n, .string q.tx] 34)) w1 ∧ Nx (w.alloc (.cells #[.int .i64 q.k, .int .i64 q.on, .int .i64 q.n, .string q.tx] 34)) p p') → ∃ p', One B w1 p' ∧ Fr p w w1 ∧ Nx w p p') := hide fun w1 hp => TP.pre h hp
  have HO : Hid (One B (w.alloc (.cells #[.int .i64 q.k, .int .i64 q.on, .int .i64 q.n, .string q.tx] 34)) p) := hide (h.below (below_alloc w _))
  have HBx : Hid ((w.alloc (.cells #[.int .i64 q.k, .int .i64 q.on, .int .i64 q.n, .string q.tx] 34)).heap[w.heap.size]? = some (.cells #[.int .i64 q.k, .int .i64 q.on, .int .i64 q.n, .string q.tx] 34 (0, 0))) := hide (heap_alloc_new w _)
  obtain ⟨Y, hY⟩ : ∃ Y, w.heap.size = Y := ⟨_, rfl⟩
  rw [hY] at HBx
  have b0 := four_k HBx.out
  have b2 := four_n HBx.out
  have b3 := four_t HBx.out
  have hYl := lt_of_block HBx.out
  clear h hq
  by_cases hk1 : q.k = 1
  · skip
    have e1 : (q.k == 1) = true := by simpa using hk1
    clear hk1
    obtain ⟨E, hE⟩ : ∃ E, p.s.putE q.tx = E := ⟨_, rfl⟩
    have HE := hide hE
    have hEE : (E == E) = true := by simp
    clear hE
    go_enter Try.func10, Try.ntmps10
    go_wp2_with fail
    clear hY
    generalize w.alloc (.cells #[.int .i64 q.k, .int .i64 q.on, .int .i64 q.n, .string q.tx] 34) = W at *
    have HO := hide (HO.out.drewN 1)
    have HBx : Hid ((W.drewN 1).heap[Y]? = some (.cells #[.int .i64 q.k, .int .i64 q.on, .int .i64 q.n, .string q.tx] 34 (0, 0))) := HBx
    have HW1 : Hid (W.drew = W.drewN 1) := hide rfl
    refine wp_region_held_drew (S := fun w' => w'.heap[Y]? = some (.cells #[.int .i64 q.k, .int .i64 q.on, .int .i64 q.n, .string q.tx] 34 (0, 0))) (by kernel_rfl) (HBx.out) (fun hHeld => ?_)
    refine wpAnyH_take (i := 0) (v := .pointer (some ⟨p.b, 0, none⟩)) rfl (by kernel_rfl) (by kernel_rfl) (by kernel_rfl) (fun _ _ _ h => h) (Or.inl ⟨by kernel_rfl, fun w1 hSw => by clear hHeld; have k2 := four_n hSw; have k3 := four_t hSw; go_simp⟩) hHeld ?_
    try simp only [Act.put]
    try simp only [List.getElem_toArray]
    try simp only [List.getElem_cons_succ]
    try simp only [List.getElem_cons_zero]
    try simp only [List.setIfInBounds_toArray]
    try simp only [List.set_cons_succ, List.set_cons_zero]
    refine wpAnyH_take (i := 1) (v := .pointer (some ⟨Y, 3, none⟩)) rfl (by kernel_rfl) (by kernel_rfl) (by kernel_rfl) (fun _ _ _ h => h) (Or.inl ⟨by kernel_rfl, fun w1 hSw => by clear hHeld; have k2 := four_n hSw; have k3 := four_t hSw; go_simp⟩) hHeld ?_
    try simp only [Act.put]
    try simp only [List.getElem_toArray]
    try simp only [List.getElem_cons_succ]
    try simp only [List.getElem_cons_zero]
    try simp only [List.setIfInBounds_toArray]
    try simp only [List.set_cons_succ, List.set_cons_zero]
    refine wpAnyH_take (i := 2) (v := .string q.tx) rfl (by kernel_rfl) (by kernel_rfl) (by kernel_rfl) (fun _ _ _ h => h) (Or.inl ⟨by kernel_rfl, fun w1 hSw => by clear hHeld; have k2 := four_n hSw; have k3 := four_t hSw; go_simp⟩) hHeld ?_
    try simp only [Act.put]
    try simp only [List.getElem_toArray]
    try simp only [List.getElem_cons_succ]
    try simp only [List.getElem_cons_zero]
    try simp only [List.setIfInBounds_toArray]
    try simp only [List.set_cons_succ, List.set_cons_zero]
    refine wpAnyH_take (i := 4) (v := .pointer (some ⟨p.x, 0, none⟩)) rfl (by kernel_rfl) (by kernel_rfl) (by kernel_rfl) (fun _ _ _ h => h) (Or.inl ⟨by kernel_rfl, fun w1 hSw => by clear hHeld; have k2 := four_n hSw; have k3 := four_t hSw; go_simp⟩) hHeld ?_
    try simp only [Act.put]
    try simp only [List.getElem_toArray]
    try simp only [List.getElem_cons_succ]
    try simp only [List.getElem_cons_zero]
    try simp only [List.setIfInBounds_toArray]
    try simp only [List.set_cons_succ, List.set_cons_zero]
    refine wpAnyH_take (i := 5) (v := .pointer (some ⟨Y, 3, none⟩)) rfl (by kernel_rfl) (by kernel_rfl) (by kernel_rfl) (fun _ _ _ h => h) (Or.inl ⟨by kernel_rfl, fun w1 hSw => by clear hHeld; have k2 := four_n hSw; have k3 := four_t hSw; go_simp⟩) hHeld ?_
    try simp only [Act.put]
    try simp only [List.getElem_toArray]
    try simp only [List.getElem_cons_succ]
    try simp only [List.getElem_cons_zero]
    try simp only [List.setIfInBounds_toArray]
    try simp only [List.set_cons_succ, List.set_cons_zero]
    refine wpAnyH_take (i := 6) (v := .string q.tx) rfl (by kernel_rfl) (by kernel_rfl) (by kernel_rfl) (fun _ _ _ h => h) (Or.inl ⟨by kernel_rfl, fun w1 hSw => by clear hHeld; have k2 := four_n hSw; have k3 := four_t hSw; go_simp⟩) hHeld ?_
    try simp only [Act.put]
    try simp only [List.getElem_toArray]
    try simp only [List.getElem_cons_succ]
    try simp only [List.getElem_cons_zero]
    try simp only [List.setIfInBounds_toArray]
    try simp only [List.set_cons_succ, List.set_cons_zero]
    refine wpAnyH_ready (rs := [3]) (by kernel_rfl) (by simp) ?_
    refine AllReadyH.cons rfl (fun K hK => ?_) AllReadyH.nil
    go_simp
    refine (sput_any HO.out.ok HO.out.sb q.tx).mono ?_
    rintro e V1 ⟨rfl, hp1⟩
    have HP1 := hide hp1
    have HS1 := hide (box_put HO.out hHeld hp1)
    have HR1 := hide (rb_put HO.out hp1)
    rw [HE.out]
    clear hp1
    refine hK.out _ _ (HS1.out) (fun hHeld => ?_)
    clear hK K
    try simp only [Act.put]
    try simp only [List.getElem_toArray]
    try simp only [List.getElem_cons_succ]
    try simp only [List.getElem_cons_zero]
    try simp only [List.setIfInBounds_toArray]
    try simp only [List.set_cons_succ, List.set_cons_zero]
    refine wpAnyH_ready (rs := [7]) (by kernel_rfl) (by simp) ?_
    refine AllReadyH.cons rfl (fun K hK => ?_) AllReadyH.nil
    go_simp
    refine (rput_any HO.out.ok HR1.out q.tx).mono ?_
    rintro e V2 ⟨rfl, hp2⟩
    have HP2 := hide hp2
    have HS2 := hide (box_rput HR1.out.cb hHeld hp2)
    rw [HE.out]
    clear hp2
    refine hK.out _ _ (HS2.out) (fun hHeld => ?_)
    clear hK K
    try simp only [Act.put]
    try simp only [List.getElem_toArray]
    try simp only [List.getElem_cons_succ]
    try simp only [List.getElem_cons_zero]
    try simp only [List.setIfInBounds_toArray]
    try simp only [List.set_cons_succ, List.set_cons_zero]
    refine wpAnyH_take (i := 8) (v := .bool true) rfl (by kernel_rfl) (by kernel_rfl) (by kernel_rfl) (fun _ _ _ h => h) (Or.inl ⟨by kernel_rfl, fun w1 hSw => by clear hHeld; have k2 := four_n hSw; have k3 := four_t hSw; go_simp⟩) hHeld ?_
    try simp only [Act.put]
    try simp only [List.getElem_toArray]
    try simp only [List.getElem_cons_succ]
    try simp only [List.getElem_cons_zero]
    try simp only [List.setIfInBounds_toArray]
    try simp only [List.set_cons_succ, List.set_cons_zero]
    refine wpAnyH_take (i := 9) (v := .bool true) rfl (by kernel_rfl) (by kernel_rfl) (by kernel_rfl) (fun _ _ _ h => h) (Or.inl ⟨by kernel_rfl, fun w1 hSw => by clear hHeld; have k2 := four_n hSw; have k3 := four_t hSw; go_simp⟩) hHeld ?_
    try simp only [Act.put]
    try simp only [List.getElem_toArray]
    try simp only [List.getElem_cons_succ]
    try simp only [List.getElem_cons_zero]
    try simp only [List.setIfInBounds_toArray]
    try simp only [List.set_cons_succ, List.set_cons_zero]
    refine wpAnyH_done (by kernel_rfl) ?_ _
    go_wp2
    go_ret
    refine ⟨rfl, ?_⟩
    obtain ⟨p', a1, a2, a3⟩ := put_whole HO.out HP1.out HP2.out
    exact HTP.out _ ⟨p', a1, a2.pre, ⟨a3.b, a3.x, a3.X, a3.Xx⟩⟩
  by_cases hk2 : q.k = 2
  · skip
    have e1 : (q.k == 1) = false := by simpa using hk1
    have e2 : (q.k == 2) = true := by simpa using hk2
    clear hk1 hk2
    clear hY
    go_enter Try.func10, Try.ntmps10
    go_wp2_with fail
    refine (tick_any HO.out.ok HO.out.sb).mono ?_
    rintro e w5 ⟨rfl, hs5, ho5⟩
    have HR5 := hide (HO.out.rb.on ho5 (Ne.symm HO.out.bx) HO.out.Xxb)
    have HS5 := hide hs5
    have HO5 := hide ho5
    clear hs5 ho5
    go_wp2_with fail
    refine (rtick_any HO.out.ok HR5.out).mono ?_
    rintro e w6 ⟨rfl, hr6, ho6⟩
    have HT := hide (tick_whole HO.out HS5.out HO5.out hr6 ho6)
    clear hr6 ho6
    go_wp2_with fail
    go_ret
    exact ⟨rfl, HTP.out _ HT.out⟩
  by_cases hk3 : q.k = 3
  · skip
    have e1 : (q.k == 1) = false := by simpa using hk1
    have e2 : (q.k == 2) = false := by simpa using hk2
    have e3 : (q.k == 3) = true := by simpa using hk3
    clear hk1 hk2 hk3
    clear hY
    go_enter Try.func10, Try.ntmps10
    go_wp2_with fail
    refine (ldue_any HO.out).mono ?_
    rintro e w5 ⟨rfl, hp5⟩
    have HT := hide hp5
    clear hp5
    go_wp2_with fail
    go_ret
    exact ⟨rfl, HTP.out _ HT.out⟩
  by_cases hk4 : q.k = 4
  · skip
    have e1 : (q.k == 1) = false := by simpa using hk1
    have e2 : (q.k == 2) = false := by simpa using hk2
    have e3 : (q.k == 3) = false := by simpa using hk3
    have e4 : (q.k == 4) = true := by simpa using hk4
    clear hk1 hk2 hk3 hk4
    obtain ⟨E, hE⟩ : ∃ E, p.s.ackB q.n = E := ⟨_, rfl⟩
    have HE := hide hE
    clear hE
    cases E
    · go_enter Try.func10, Try.ntmps10
      go_wp2_with fail
      clear hY
      generalize w.alloc (.cells #[.int .i64 q.k, .int .i64 q.on, .int .i64 q.n, .string q.tx] 34) = W at *
      have HO := hide (HO.out.drewN 1)
      have HBx : Hid ((W.drewN 1).heap[Y]? = some (.cells #[.int .i64 q.k, .int .i64 q.on, .int .i64 q.n, .string q.tx] 34 (0, 0))) := HBx
      refine wp_region_held_drew (S := fun w' => w'.heap[Y]? = some (.cells #[.int .i64 q.k, .int .i64 q.on, .int .i64 q.n, .string q.tx] 34 (0, 0))) (by kernel_rfl) (HBx.out) (fun hHeld => ?_)
      refine wpAnyH_take (i := 0) (v := .pointer (some ⟨p.b, 0, none⟩)) rfl (by kernel_rfl) (by kernel_rfl) (by kernel_rfl) (fun _ _ _ h => h) (Or.inl ⟨by kernel_rfl, fun w1 hSw => by clear hHeld; have k2 := four_n hSw; have k3 := four_t hSw; go_simp⟩) hHeld ?_
      try simp only [Act.put]
      try simp only [List.getElem_toArray]
      try simp only [List.getElem_cons_succ]
      try simp only [List.getElem_cons_zero]
      try simp only [List.setIfInBounds_toArray]
      try simp only [List.set_cons_succ, List.set_cons_zero]
      refine wpAnyH_take (i := 1) (v := .pointer (some ⟨Y, 2, none⟩)) rfl (by kernel_rfl) (by kernel_rfl) (by kernel_rfl) (fun _ _ _ h => h) (Or.inl ⟨by kernel_rfl, fun w1 hSw => by clear hHeld; have k2 := four_n hSw; have k3 := four_t hSw; go_simp⟩) hHeld ?_
      try simp only [Act.put]
      try simp only [List.getElem_toArray]
      try simp only [List.getElem_cons_succ]
      try simp only [List.getElem_cons_zero]
      try simp only [List.setIfInBounds_toArray]
      try simp only [List.set_cons_succ, List.set_cons_zero]
      refine wpAnyH_take (i := 2) (v := .int .i64 q.n) rfl (by kernel_rfl) (by kernel_rfl) (by kernel_rfl) (fun _ _ _ h => h) (Or.inl ⟨by kernel_rfl, fun w1 hSw => by clear hHeld; have k2 := four_n hSw; have k3 := four_t hSw; go_simp⟩) hHeld ?_
      try simp only [Act.put]
      try simp only [List.getElem_toArray]
      try simp only [List.getElem_cons_succ]
      try simp only [List.getElem_cons_zero]
      try simp only [List.setIfInBounds_toArray]
      try simp only [List.set_cons_succ, List.set_cons_zero]
      refine wpAnyH_take (i := 4) (v := .pointer (some ⟨p.x, 0, none⟩)) rfl (by kernel_rfl) (by kernel_rfl) (by kernel_rfl) (fun _ _ _ h => h) (Or.inl ⟨by kernel_rfl, fun w1 hSw => by clear hHeld; have k2 := four_n hSw; have k3 := four_t hSw; go_simp⟩) hHeld ?_
      try simp only [Act.put]
      try simp only [List.getElem_toArray]
      try simp only [List.getElem_cons_succ]
      try simp only [List.getElem_cons_zero]
      try simp only [List.setIfInBounds_toArray]
      try simp only [List.set_cons_succ, List.set_cons_zero]
      refine wpAnyH_take (i := 5) (v := .pointer (some ⟨Y, 2, none⟩)) rfl (by kernel_rfl) (by kernel_rfl) (by kernel_rfl) (fun _ _ _ h => h) (Or.inl ⟨by kernel_rfl, fun w1 hSw => by clear hHeld; have k2 := four_n hSw; have k3 := four_t hSw; go_simp⟩) hHeld ?_
      try simp only [Act.put]
      try simp only [List.getElem_toArray]
      try simp only [List.getElem_cons_succ]
      try simp only [List.getElem_cons_zero]
      try simp only [List.setIfInBounds_toArray]
      try simp only [List.set_cons_succ, List.set_cons_zero]
      refine wpAnyH_take (i := 6) (v := .int .i64 q.n) rfl (by kernel_rfl) (by kernel_rfl) (by kernel_rfl) (fun _ _ _ h => h) (Or.inl ⟨by kernel_rfl, fun w1 hSw => by clear hHeld; have k2 := four_n hSw; have k3 := four_t hSw; go_simp⟩) hHeld ?_
      try simp only [Act.put]
      try simp only [List.getElem_toArray]
      try simp only [List.getElem_cons_succ]
      try simp only [List.getElem_cons_zero]
      try simp only [List.setIfInBounds_toArray]
      try simp only [List.set_cons_succ, List.set_cons_zero]
      refine wpAnyH_ready (rs := [3]) (by kernel_rfl) (by simp) ?_
      refine AllReadyH.cons rfl (fun K hK => ?_) AllReadyH.nil
      go_simp
      refine (ack_any HO.out.ok HO.out.sb q.n HQ6.out).mono ?_
      rintro e V1 ⟨rfl, hp1, ho1⟩
      have HP1 := hide hp1
      have HO1 := hide ho1
      have HS1 := hide (box_on hHeld HO.out.sb.cb ho1)
      have HR1 := hide (HO.out.rb.on ho1 (Ne.symm HO.out.bx) HO.out.Xxb)
      rw [HE.out]
      clear hp1 ho1
      refine hK.out _ _ (HS1.out) (fun hHeld => ?_)
      clear hK K
      try simp only [Act.put]
      try simp only [List.getElem_toArray]
      try simp only [List.getElem_cons_succ]
      try simp only [List.getElem_cons_zero]
      try simp only [List.setIfInBounds_toArray]
      try simp only [List.set_cons_succ, List.set_cons_zero]
      refine wpAnyH_ready (rs := [7]) (by kernel_rfl) (by simp) ?_
      refine AllReadyH.cons rfl (fun K hK => ?_) AllReadyH.nil
      go_simp
      refine (rack_any HO.out.ok HR1.out q.n HQ6.out).mono ?_
      rintro e V2 ⟨rfl, hr2, ho2⟩
      have HR2 := hide hr2
      have HO2 := hide ho2
      have HS2 := hide (box_onx hHeld HR1.out.cb ho2)
      rw [HE.out]
      clear hr2 ho2
      refine hK.out _ _ (HS2.out) (fun hHeld => ?_)
      clear hK K
      try simp only [Act.put]
      try simp only [List.getElem_toArray]
      try simp only [List.getElem_cons_succ]
      try simp only [List.getElem_cons_zero]
      try simp only [List.setIfInBounds_toArray]
      try simp only [List.set_cons_succ, List.set_cons_zero]
      refine wpAnyH_take (i := 8) (v := .bool true) rfl (by kernel_rfl) (by kernel_rfl) (by kernel_rfl) (fun _ _ _ h => h) (Or.inl ⟨by kernel_rfl, fun w1 hSw => by clear hHeld; have k2 := four_n hSw; have k3 := four_t hSw; go_simp⟩) hHeld ?_
      try simp only [Act.put]
      try simp only [List.getElem_toArray]
      try simp only [List.getElem_cons_succ]
      try simp only [List.getElem_cons_zero]
      try simp only [List.setIfInBounds_toArray]
      try simp only [List.set_cons_succ, List.set_cons_zero]
      refine wpAnyH_take (i := 9) (v := .bool true) rfl (by kernel_rfl) (by kernel_rfl) (by kernel_rfl) (fun _ _ _ h => h) (Or.inl ⟨by kernel_rfl, fun w1 hSw => by clear hHeld; have k2 := four_n hSw; have k3 := four_t hSw; go_simp⟩) hHeld ?_
      try simp only [Act.put]
      try simp only [List.getElem_toArray]
      try simp only [List.getElem_cons_succ]
      try simp only [List.getElem_cons_zero]
      try simp only [List.setIfInBounds_toArray]
      try simp only [List.set_cons_succ, List.set_cons_zero]
      refine wpAnyH_done (by kernel_rfl) ?_ _
      go_wp2
      go_ret
      refine ⟨rfl, ?_⟩
      obtain ⟨p', a1, a2, a3⟩ := ack_whole HO.out HP1.out HO1.out HR2.out HO2.out
      exact HTP.out _ ⟨p', a1, a2.pre, ⟨a3.b, a3.x, a3.X, a3.Xx⟩⟩
    · go_enter Try.func10, Try.ntmps10
      go_wp2_with fail
      clear hY
      generalize w.alloc (.cells #[.int .i64 q.k, .int .i64 q.on, .int .i64 q.n, .string q.tx] 34) = W at *
      have HO := hide (HO.out.drewN 1)
      have HBx : Hid ((W.drewN 1).heap[Y]? = some (.cells #[.int .i64 q.k, .int .i64 q.on, .int .i64 q.n, .string q.tx] 34 (0, 0))) := HBx
      refine wp_region_held_drew (S := fun w' => w'.heap[Y]? = some (.cells #[.int .i64 q.k, .int .i64 q.on, .int .i64 q.n, .string q.tx] 34 (0, 0))) (by kernel_rfl) (HBx.out) (fun hHeld => ?_)
      refine wpAnyH_take (i := 0) (v := .pointer (some ⟨p.b, 0, none⟩)) rfl (by kernel_rfl) (by kernel_rfl) (by kernel_rfl) (fun _ _ _ h => h) (Or.inl ⟨by kernel_rfl, fun w1 hSw => by clear hHeld; have k2 := four_n hSw; have k3 := four_t hSw; go_simp⟩) hHeld ?_
      try simp only [Act.put]
      try simp only [List.getElem_toArray]
      try simp only [List.getElem_cons_succ]
      try simp only [List.getElem_cons_zero]
      try simp only [List.setIfInBounds_toArray]
      try simp only [List.set_cons_succ, List.set_cons_zero]
      refine wpAnyH_take (i := 1) (v := .pointer (some ⟨Y, 2, none⟩)) rfl (by kernel_rfl) (by kernel_rfl) (by kernel_rfl) (fun _ _ _ h => h) (Or.inl ⟨by kernel_rfl, fun w1 hSw => by clear hHeld; have k2 := four_n hSw; have k3 := four_t hSw; go_simp⟩) hHeld ?_
      try simp only [Act.put]
      try simp only [List.getElem_toArray]
      try simp only [List.getElem_cons_succ]
      try simp only [List.getElem_cons_zero]
      try simp only [List.setIfInBounds_toArray]
      try simp only [List.set_cons_succ, List.set_cons_zero]
      refine wpAnyH_take (i := 2) (v := .int .i64 q.n) rfl (by kernel_rfl) (by kernel_rfl) (by kernel_rfl) (fun _ _ _ h => h) (Or.inl ⟨by kernel_rfl, fun w1 hSw => by clear hHeld; have k2 := four_n hSw; have k3 := four_t hSw; go_simp⟩) hHeld ?_
      try simp only [Act.put]
      try simp only [List.getElem_toArray]
      try simp only [List.getElem_cons_succ]
      try simp only [List.getElem_cons_zero]
      try simp only [List.setIfInBounds_toArray]
      try simp only [List.set_cons_succ, List.set_cons_zero]
      refine wpAnyH_take (i := 4) (v := .pointer (some ⟨p.x, 0, none⟩)) rfl (by kernel_rfl) (by kernel_rfl) (by kernel_rfl) (fun _ _ _ h => h) (Or.inl ⟨by kernel_rfl, fun w1 hSw => by clear hHeld; have k2 := four_n hSw; have k3 := four_t hSw; go_simp⟩) hHeld ?_
      try simp only [Act.put]
      try simp only [List.getElem_toArray]
      try simp only [List.getElem_cons_succ]
      try simp only [List.getElem_cons_zero]
      try simp only [List.setIfInBounds_toArray]
      try simp only [List.set_cons_succ, List.set_cons_zero]
      refine wpAnyH_take (i := 5) (v := .pointer (some ⟨Y, 2, none⟩)) rfl (by kernel_rfl) (by kernel_rfl) (by kernel_rfl) (fun _ _ _ h => h) (Or.inl ⟨by kernel_rfl, fun w1 hSw => by clear hHeld; have k2 := four_n hSw; have k3 := four_t hSw; go_simp⟩) hHeld ?_
      try simp only [Act.put]
      try simp only [List.getElem_toArray]
      try simp only [List.getElem_cons_succ]
      try simp only [List.getElem_cons_zero]
      try simp only [List.setIfInBounds_toArray]
      try simp only [List.set_cons_succ, List.set_cons_zero]
      refine wpAnyH_take (i := 6) (v := .int .i64 q.n) rfl (by kernel_rfl) (by kernel_rfl) (by kernel_rfl) (fun _ _ _ h => h) (Or.inl ⟨by kernel_rfl, fun w1 hSw => by clear hHeld; have k2 := four_n hSw; have k3 := four_t hSw; go_simp⟩) hHeld ?_
      try simp only [Act.put]
      try simp only [List.getElem_toArray]
      try simp only [List.getElem_cons_succ]
      try simp only [List.getElem_cons_zero]
      try simp only [List.setIfInBounds_toArray]
      try simp only [List.set_cons_succ, List.set_cons_zero]
      refine wpAnyH_ready (rs := [3]) (by kernel_rfl) (by simp) ?_
      refine AllReadyH.cons rfl (fun K hK => ?_) AllReadyH.nil
      go_simp
      refine (ack_any HO.out.ok HO.out.sb q.n HQ6.out).mono ?_
      rintro e V1 ⟨rfl, hp1, ho1⟩
      have HP1 := hide hp1
      have HO1 := hide ho1
      have HS1 := hide (box_on hHeld HO.out.sb.cb ho1)
      have HR1 := hide (HO.out.rb.on ho1 (Ne.symm HO.out.bx) HO.out.Xxb)
      rw [HE.out]
      clear hp1 ho1
      refine hK.out _ _ (HS1.out) (fun hHeld => ?_)
      clear hK K
      try simp only [Act.put]
      try simp only [List.getElem_toArray]
      try simp only [List.getElem_cons_succ]
      try simp only [List.getElem_cons_zero]
      try simp only [List.setIfInBounds_toArray]
      try simp only [List.set_cons_succ, List.set_cons_zero]
      refine wpAnyH_ready (rs := [7]) (by kernel_rfl) (by simp) ?_
      refine AllReadyH.cons rfl (fun K hK => ?_) AllReadyH.nil
      go_simp
      refine (rack_any HO.out.ok HR1.out q.n HQ6.out).mono ?_
      rintro e V2 ⟨rfl, hr2, ho2⟩
      have HR2 := hide hr2
      have HO2 := hide ho2
      have HS2 := hide (box_onx hHeld HR1.out.cb ho2)
      rw [HE.out]
      clear hr2 ho2
      refine hK.out _ _ (HS2.out) (fun hHeld => ?_)
      clear hK K
      try simp only [Act.put]
      try simp only [List.getElem_toArray]
      try simp only [List.getElem_cons_succ]
      try simp only [List.getElem_cons_zero]
      try simp only [List.setIfInBounds_toArray]
      try simp only [List.set_cons_succ, List.set_cons_zero]
      refine wpAnyH_take (i := 8) (v := .bool true) rfl (by kernel_rfl) (by kernel_rfl) (by kernel_rfl) (fun _ _ _ h => h) (Or.inl ⟨by kernel_rfl, fun w1 hSw => by clear hHeld; have k2 := four_n hSw; have k3 := four_t hSw; go_simp⟩) hHeld ?_
      try simp only [Act.put]
      try simp only [List.getElem_toArray]
      try simp only [List.getElem_cons_succ]
      try simp only [List.getElem_cons_zero]
      try simp only [List.setIfInBounds_toArray]
      try simp only [List.set_cons_succ, List.set_cons_zero]
      refine wpAnyH_take (i := 9) (v := .bool true) rfl (by kernel_rfl) (by kernel_rfl) (by kernel_rfl) (fun _ _ _ h => h) (Or.inl ⟨by kernel_rfl, fun w1 hSw => by clear hHeld; have k2 := four_n hSw; have k3 := four_t hSw; go_simp⟩) hHeld ?_
      try simp only [Act.put]
      try simp only [List.getElem_toArray]
      try simp only [List.getElem_cons_succ]
      try simp only [List.getElem_cons_zero]
      try simp only [List.setIfInBounds_toArray]
      try simp only [List.set_cons_succ, List.set_cons_zero]
      refine wpAnyH_done (by kernel_rfl) ?_ _
      go_wp2
      go_ret
      refine ⟨rfl, ?_⟩
      obtain ⟨p', a1, a2, a3⟩ := ack_whole HO.out HP1.out HO1.out HR2.out HO2.out
      exact HTP.out _ ⟨p', a1, a2.pre, ⟨a3.b, a3.x, a3.X, a3.Xx⟩⟩
  have e1 : (q.k == 1) = false := by simpa using hk1
  have e2 : (q.k == 2) = false := by simpa using hk2
  have e3 : (q.k == 3) = false := by simpa using hk3
  have e4 : (q.k == 4) = false := by simpa using hk4
  clear hk1 hk2 hk3 hk4 hY
  go_enter Try.func10, Try.ntmps10
  go_wp2_with fail
  go_ret
  exact ⟨rfl, HTP.out _ ⟨p, HO.out, Fr.refl HO.out, Nx.same rfl rfl rfl rfl rfl rfl rfl rfl⟩⟩
end Go.Proofs.Yteckkaapibbpcaa
