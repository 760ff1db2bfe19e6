import Derived.Test.YtjpcghkdedldiaaLsPa
namespace Go.Proofs.Ytjpcghkdedldiaa
open Go.RowKit

/-- the boxes of 'answers' -/
structure Bo (H : Nat) (s : Sc) (o : Lo) (W : World) : Prop where
  p0 : W.cell? ⟨H, 0, none⟩ = some (.pointer (some ⟨s.b, 0, none⟩))
  p1 : W.cell? ⟨H, 1, none⟩ = some (.pointer (some ⟨s.x, 0, none⟩))
  o0 : W.cell? ⟨H + 1, 0, none⟩ = some (.int .i64 o.on)
  o1 : W.cell? ⟨H + 1, 1, none⟩ = some (.int .i64 o.kind)
  o2 : W.cell? ⟨H + 1, 2, none⟩ = some (.int .i64 o.job)
  o3 : W.cell? ⟨H + 1, 3, none⟩ = some (.int .i64 o.bdg)
  o4 : W.cell? ⟨H + 1, 4, none⟩ = some (.int .i64 o.node)
  o5 : W.cell? ⟨H + 1, 5, none⟩ = some (.int .i64 o.life)
theorem Bo.grown {H k : Nat} {s : Sc} {o : Lo} {W W' : World} (h : Bo H s o W) (hg : W.grownBy W' (some k)) (hk : k < H) : Bo H s o W' := by
  have n1 : some H ≠ some k := fun e => by injection e with e; omega
  have n2 : some (H + 1) ≠ some k := fun e => by injection e with e; omega
  exact ⟨hg.cell h.p0 n1, hg.cell h.p1 n1, hg.cell h.o0 n2, hg.cell h.o1 n2, hg.cell h.o2 n2, hg.cell h.o3 n2, hg.cell h.o4 n2, hg.cell h.o5 n2⟩
theorem Bo.below {H : Nat} {s : Sc} {o : Lo} {W W' : World} (h : Bo H s o W) (hb : Below W.heap.size W W') : Bo H s o W' := by
  have hg := grown_of_below hb
  have n : ∀ q : Nat, some q ≠ none := fun q e => by cases e
  exact ⟨hg.cell h.p0 (n _), hg.cell h.p1 (n _), hg.cell h.o0 (n _), hg.cell h.o1 (n _), hg.cell h.o2 (n _), hg.cell h.o3 (n _), hg.cell h.o4 (n _), hg.cell h.o5 (n _)⟩
theorem bo_new (w : World) (s : Sc) (o : Lo) : Bo w.heap.size s o ((w.alloc (.cells #[.pointer (some ⟨s.b, 0, none⟩), .pointer (some ⟨s.x, 0, none⟩)] 32)).alloc o.obj) := by
  constructor <;> simp
/-- a row of leases, when a table's block turns -/
theorem rs_own_turn {W W' : World} {B x : Nat} {v : Value} {A : List Lz} (h : W.ownsRow B 54 5 v A.length (lcs A)) (hx : ∃ T a n c, W.heap[x]? = some (.cells #[.int .i64 T, .slice a n c] 47 (0, 0))) (hg : W.grownBy W' (some x)) : W'.ownsRow B 54 5 v A.length (lcs A) := by
  refine h.kept hg (.inr fun e => ?_)
  obtain ⟨T, a, n, c, h1⟩ := hx
  rcases h.2 with ⟨h2, _⟩ | ⟨g, cap, cur, rfl, _, hgb, _⟩
  · rw [h2] at e; cases e
  · injection e with e
    have e : g = x := e
    rw [e, h1] at hgb
    cases hgb
theorem Two.drew {m x : Nat} {w w' : World} (h : Two m x w.drew w') : Two m x w w' := ⟨h.os, h.tape, h.output, h.size, h.block⟩
theorem cut_any (W : World) (ad : Option Addr) (ab n N cap : Nat) (h : n ≤ cap) (ha : ad = none ∧ n = 0 ∨ ad = some ⟨ab, 0, none⟩) : (Instr.slice 42 (.slice ad N cap) none (some (.int .i64 (n : Int))) none).run Try.prog W = .ok (.slice ad n cap) W := by
  have hi : (n : Int) ≤ (cap : Int) := by omega
  rw [run_slice_h (P := Try.prog) W 42 ad N cap (by simp [Program.elem, Try.underlying42]) .i64 (n : Int) (by omega) hi]
  have e : Try.prog.elem 42 = 54 := by simp [Program.elem, Try.underlying42]
  rw [e]
  rcases ha with ⟨rfl, rfl⟩ | rfl
  · go_simp
  · go_simp
theorem cut_at2 (W : World) (ad : Option Addr) (ab n N cap : Nat) (h : n ≤ cap) (ha : ad = none ∧ n = 0 ∨ ad = some ⟨ab, 0, none⟩) : (Instr.sliceAt 42 (.slice ad N cap) none (some (.int .i64 (n : Int))) none).run Try.prog W = .ok (.slice ad n cap) W := by
  rw [run_sliceAt_slice (P := Try.prog) W 42 _ _ _ _ (by simp [Program.elem, Try.underlying42]), cut_any W ad ab n N cap h ha]

set_option maxRecDepth 100000 in
set_option maxHeartbeats 4000000 in
theorem answers_0 {w : World} {T : Int} {s : Sc} (h : Pr T w s) (o : Lo)  (hk : o.kind = 0) : Calls Try.prog 13 #[.agg #[.pointer (some ⟨s.b, 0, none⟩), .pointer (some ⟨s.x, 0, none⟩)], o.val] w fun e w' => e = .returned (.bool true) ∧ Pr T w' { s with L := dsL T s.L o } ∧ Two s.m s.x w w' := by
  have hltm := h.ta.tb.map.lt
  have hltx := h.xa.lt
  have HL : Hid (dsL T s.L o = grL T s.L o.job o.bdg o.node o.life) := by show _ = _; unfold dsL; rw [if_pos hk]
  have n0 : (o.kind == 0) = true := by rw [hk]; decide
  have HBW : Hid (Below w.heap.size w ((w.alloc (.cells #[.pointer (some ⟨s.b, 0, none⟩), .pointer (some ⟨s.x, 0, none⟩)] 32)).alloc o.obj)) := (below_alloc w _).alloc (by simp) _
  have HP := hide (h.below HBW.out)
  have HBO := hide (bo_new w s o)
  clear h hk
  go_enter Try.func13, Try.ntmps13
  have oo1 := HBO.out.o1
  go_wp2_with fail
  clear oo1
  have hSZ : ((w.alloc (.cells #[.pointer (some ⟨s.b, 0, none⟩), .pointer (some ⟨s.x, 0, none⟩)] 32)).alloc o.obj).heap.size = w.heap.size + 2 := by simp
  generalize (w.alloc (.cells #[.pointer (some ⟨s.b, 0, none⟩), .pointer (some ⟨s.x, 0, none⟩)] 32)).alloc o.obj = W2 at *
  have HPD := hide HP.out.drew
  have HBD : Hid (Bo w.heap.size s o W2.drew) := ⟨HBO.out.p0, HBO.out.p1, HBO.out.o0, HBO.out.o1, HBO.out.o2, HBO.out.o3, HBO.out.o4, HBO.out.o5⟩
  refine wp_region_held_drew (S := (Bo w.heap.size s o)) (by kernel_rfl) (HBD.out) (fun hHeld => ?_)
  refine wpAnyH_take (i := 0) (v := (.pointer (some ⟨w.heap.size, 0, none⟩))) rfl (by kernel_rfl) (by kernel_rfl) (by kernel_rfl) (fun _ _ _ h => h) (Or.inl ⟨by rfl, fun w1 hSw => by clear hHeld; obtain ⟨s0, s1, s2, s3, s4, s5, s6, s7⟩ := hSw; go_simp⟩) hHeld ?_
  simp only [Act.put, List.setIfInBounds_toArray]
  refine wpAnyH_take (i := 1) (v := (.pointer (some ⟨s.b, 0, none⟩))) rfl (by kernel_rfl) (by kernel_rfl) (by kernel_rfl) (fun _ _ _ h => h) (Or.inl ⟨by rfl, fun w1 hSw => by clear hHeld; obtain ⟨s0, s1, s2, s3, s4, s5, s6, s7⟩ := hSw; go_simp⟩) hHeld ?_
  try simp only [Act.put]
  refine wpAnyH_take (i := 2) (v := (.pointer (some ⟨w.heap.size + 1, 2, none⟩))) rfl (by kernel_rfl) (by kernel_rfl) (by kernel_rfl) (fun _ _ _ h => h) (Or.inl ⟨by rfl, fun w1 hSw => by clear hHeld; obtain ⟨s0, s1, s2, s3, s4, s5, s6, s7⟩ := hSw; go_simp⟩) hHeld ?_
  try simp only [Act.put]
  refine wpAnyH_take (i := 3) (v := (.int .i64 o.job)) rfl (by kernel_rfl) (by kernel_rfl) (by kernel_rfl) (fun _ _ _ h => h) (Or.inl ⟨by rfl, fun w1 hSw => by clear hHeld; obtain ⟨s0, s1, s2, s3, s4, s5, s6, s7⟩ := hSw; go_simp⟩) hHeld ?_
  try simp only [Act.put]
  refine wpAnyH_take (i := 4) (v := (.pointer (some ⟨w.heap.size + 1, 3, none⟩))) rfl (by kernel_rfl) (by kernel_rfl) (by kernel_rfl) (fun _ _ _ h => h) (Or.inl ⟨by rfl, fun w1 hSw => by clear hHeld; obtain ⟨s0, s1, s2, s3, s4, s5, s6, s7⟩ := hSw; go_simp⟩) hHeld ?_
  try simp only [Act.put]
  refine wpAnyH_take (i := 5) (v := (.int .i64 o.bdg)) rfl (by kernel_rfl) (by kernel_rfl) (by kernel_rfl) (fun _ _ _ h => h) (Or.inl ⟨by rfl, fun w1 hSw => by clear hHeld; obtain ⟨s0, s1, s2, s3, s4, s5, s6, s7⟩ := hSw; go_simp⟩) hHeld ?_
  try simp only [Act.put]
  refine wpAnyH_take (i := 6) (v := (.pointer (some ⟨w.heap.size + 1, 4, none⟩))) rfl (by kernel_rfl) (by kernel_rfl) (by kernel_rfl) (fun _ _ _ h => h) (Or.inl ⟨by rfl, fun w1 hSw => by clear hHeld; obtain ⟨s0, s1, s2, s3, s4, s5, s6, s7⟩ := hSw; go_simp⟩) hHeld ?_
  try simp only [Act.put]
  refine wpAnyH_take (i := 7) (v := (.agg #[.int .i64 o.node, .int .i64 o.life])) rfl (by kernel_rfl) (by kernel_rfl) (by kernel_rfl) (fun _ _ _ h => h) (Or.inl ⟨by rfl, fun w1 hSw => by clear hHeld; obtain ⟨s0, s1, s2, s3, s4, s5, s6, s7⟩ := hSw; go_simp⟩) hHeld ?_
  try simp only [Act.put]
  refine wpAnyH_take (i := 9) (v := (.pointer (some ⟨w.heap.size, 1, none⟩))) rfl (by kernel_rfl) (by kernel_rfl) (by kernel_rfl) (fun _ _ _ h => h) (Or.inl ⟨by rfl, fun w1 hSw => by clear hHeld; obtain ⟨s0, s1, s2, s3, s4, s5, s6, s7⟩ := hSw; go_simp⟩) hHeld ?_
  try simp only [Act.put]
  refine wpAnyH_take (i := 10) (v := (.pointer (some ⟨s.x, 0, none⟩))) rfl (by kernel_rfl) (by kernel_rfl) (by kernel_rfl) (fun _ _ _ h => h) (Or.inl ⟨by rfl, fun w1 hSw => by clear hHeld; obtain ⟨s0, s1, s2, s3, s4, s5, s6, s7⟩ := hSw; go_simp⟩) hHeld ?_
  try simp only [Act.put]
  refine wpAnyH_take (i := 11) (v := (.pointer (some ⟨w.heap.size + 1, 2, none⟩))) rfl (by kernel_rfl) (by kernel_rfl) (by kernel_rfl) (fun _ _ _ h => h) (Or.inl ⟨by rfl, fun w1 hSw => by clear hHeld; obtain ⟨s0, s1, s2, s3, s4, s5, s6, s7⟩ := hSw; go_simp⟩) hHeld ?_
  try simp only [Act.put]
  refine wpAnyH_take (i := 12) (v := (.int .i64 o.job)) rfl (by kernel_rfl) (by kernel_rfl) (by kernel_rfl) (fun _ _ _ h => h) (Or.inl ⟨by rfl, fun w1 hSw => by clear hHeld; obtain ⟨s0, s1, s2, s3, s4, s5, s6, s7⟩ := hSw; go_simp⟩) hHeld ?_
  try simp only [Act.put]
  refine wpAnyH_take (i := 13) (v := (.pointer (some ⟨w.heap.size + 1, 3, none⟩))) rfl (by kernel_rfl) (by kernel_rfl) (by kernel_rfl) (fun _ _ _ h => h) (Or.inl ⟨by rfl, fun w1 hSw => by clear hHeld; obtain ⟨s0, s1, s2, s3, s4, s5, s6, s7⟩ := hSw; go_simp⟩) hHeld ?_
  try simp only [Act.put]
  refine wpAnyH_take (i := 14) (v := (.int .i64 o.bdg)) rfl (by kernel_rfl) (by kernel_rfl) (by kernel_rfl) (fun _ _ _ h => h) (Or.inl ⟨by rfl, fun w1 hSw => by clear hHeld; obtain ⟨s0, s1, s2, s3, s4, s5, s6, s7⟩ := hSw; go_simp⟩) hHeld ?_
  try simp only [Act.put]
  refine wpAnyH_take (i := 15) (v := (.pointer (some ⟨w.heap.size + 1, 4, none⟩))) rfl (by kernel_rfl) (by kernel_rfl) (by kernel_rfl) (fun _ _ _ h => h) (Or.inl ⟨by rfl, fun w1 hSw => by clear hHeld; obtain ⟨s0, s1, s2, s3, s4, s5, s6, s7⟩ := hSw; go_simp⟩) hHeld ?_
  try simp only [Act.put]
  refine wpAnyH_take (i := 16) (v := (.agg #[.int .i64 o.node, .int .i64 o.life])) rfl (by kernel_rfl) (by kernel_rfl) (by kernel_rfl) (fun _ _ _ h => h) (Or.inl ⟨by rfl, fun w1 hSw => by clear hHeld; obtain ⟨s0, s1, s2, s3, s4, s5, s6, s7⟩ := hSw; go_simp⟩) hHeld ?_
  try simp only [Act.put]
  refine wpAnyH_ready (rs := [8]) (by kernel_rfl) (by simp) ?_
  refine AllReadyH.cons rfl (fun K hK => ?_) AllReadyH.nil
  go_simp
  refine (grant_ok HPD.out.ta o.job o.bdg o.node o.life).mono ?_
  rintro e w3 ⟨rfl, ht3, hg3⟩
  have HT3 := hide ht3
  have HG3 := hide hg3
  have HX3 := hide (HPD.out.xa.map HPD.out.ta.tb.map.block hg3)
  have HB3 := hide (HBD.out.grown hg3 hltm)
  clear ht3 hg3
  refine hK.out _ _ (HB3.out) (fun hHeld => ?_)
  clear hK K
  refine wpAnyH_ready (rs := [17]) (by kernel_rfl) (by simp) ?_
  refine AllReadyH.cons rfl (fun K hK => ?_) AllReadyH.nil
  go_simp
  refine (xgrant_ok HX3.out HP.out.ta.ok.len12 o.job o.bdg o.node o.life).mono ?_
  rintro e w4 ⟨rfl, hx4, hg4⟩
  have HB4 := hide (HB3.out.grown hg4 hltx)
  have HF := hide (HPD.out.both HT3.out HG3.out hx4 hg4)
  have hE : (grE s.L o.job o.bdg == grE s.L o.job o.bdg) = true := by simp
  clear hx4 hg4
  refine hK.out _ _ (HB4.out) (fun hHeld => ?_)
  clear hK K
  refine wpAnyH_take (i := 18) (v := (.bool true)) rfl (by kernel_rfl) (by kernel_rfl) (by kernel_rfl) (fun _ _ _ h => h) (Or.inl ⟨by rfl, fun w1 hSw => by clear hHeld; obtain ⟨s0, s1, s2, s3, s4, s5, s6, s7⟩ := hSw; go_simp⟩) hHeld ?_
  try simp only [Act.put]
  refine wpAnyH_take (i := 19) (v := (.bool true)) rfl (by kernel_rfl) (by kernel_rfl) (by kernel_rfl) (fun _ _ _ h => h) (Or.inl ⟨by rfl, fun w1 hSw => by clear hHeld; obtain ⟨s0, s1, s2, s3, s4, s5, s6, s7⟩ := hSw; go_simp⟩) hHeld ?_
  try simp only [Act.put]
  refine wpAnyH_done (by kernel_rfl) ?_ _
  clear hHeld
  try simp only [List.getElem_toArray]
  try simp only [List.getElem_cons_succ]
  try simp only [List.getElem_cons_zero]
  go_frame
  go_wp2_with fail
  go_ret
  rw [HL.out]
  exact ⟨rfl, HF.out.1, Two.ahead HBW.out HF.out.2.drew⟩

set_option maxRecDepth 100000 in
set_option maxHeartbeats 4000000 in
theorem answers_1 {w : World} {T : Int} {s : Sc} (h : Pr T w s) (o : Lo)  (hk : o.kind = 1) : Calls Try.prog 13 #[.agg #[.pointer (some ⟨s.b, 0, none⟩), .pointer (some ⟨s.x, 0, none⟩)], o.val] w fun e w' => e = .returned (.bool true) ∧ Pr T w' { s with L := dsL T s.L o } ∧ Two s.m s.x w w' := by
  have hltm := h.ta.tb.map.lt
  have hltx := h.xa.lt
  have HL : Hid (dsL T s.L o = rnw T o.bdg s.L) := by show _ = _; unfold dsL; rw [if_neg (by rw [hk]; decide), if_pos hk]
  have n0 : (o.kind == 0) = false := by rw [hk]; decide
  have n1 : (o.kind == 1) = true := by rw [hk]; decide
  have HBW : Hid (Below w.heap.size w ((w.alloc (.cells #[.pointer (some ⟨s.b, 0, none⟩), .pointer (some ⟨s.x, 0, none⟩)] 32)).alloc o.obj)) := (below_alloc w _).alloc (by simp) _
  have HP := hide (h.below HBW.out)
  have HBO := hide (bo_new w s o)
  clear h hk
  go_enter Try.func13, Try.ntmps13
  have oo1 := HBO.out.o1
  go_wp2_with fail
  clear oo1
  have hSZ : ((w.alloc (.cells #[.pointer (some ⟨s.b, 0, none⟩), .pointer (some ⟨s.x, 0, none⟩)] 32)).alloc o.obj).heap.size = w.heap.size + 2 := by simp
  generalize (w.alloc (.cells #[.pointer (some ⟨s.b, 0, none⟩), .pointer (some ⟨s.x, 0, none⟩)] 32)).alloc o.obj = W2 at *
  have HPD := hide HP.out.drew
  have HBD : Hid (Bo w.heap.size s o W2.drew) := ⟨HBO.out.p0, HBO.out.p1, HBO.out.o0, HBO.out.o1, HBO.out.o2, HBO.out.o3, HBO.out.o4, HBO.out.o5⟩
  refine wp_region_held_drew (S := (Bo w.heap.size s o)) (by kernel_rfl) (HBD.out) (fun hHeld => ?_)
  refine wpAnyH_take (i := 0) (v := (.pointer (some ⟨w.heap.size, 0, none⟩))) rfl (by kernel_rfl) (by kernel_rfl) (by kernel_rfl) (fun _ _ _ h => h) (Or.inl ⟨by rfl, fun w1 hSw => by clear hHeld; obtain ⟨s0, s1, s2, s3, s4, s5, s6, s7⟩ := hSw; go_simp⟩) hHeld ?_
  simp only [Act.put, List.setIfInBounds_toArray]
  refine wpAnyH_take (i := 1) (v := (.pointer (some ⟨s.b, 0, none⟩))) rfl (by kernel_rfl) (by kernel_rfl) (by kernel_rfl) (fun _ _ _ h => h) (Or.inl ⟨by rfl, fun w1 hSw => by clear hHeld; obtain ⟨s0, s1, s2, s3, s4, s5, s6, s7⟩ := hSw; go_simp⟩) hHeld ?_
  try simp only [Act.put]
  refine wpAnyH_take (i := 2) (v := (.pointer (some ⟨w.heap.size + 1, 3, none⟩))) rfl (by kernel_rfl) (by kernel_rfl) (by kernel_rfl) (fun _ _ _ h => h) (Or.inl ⟨by rfl, fun w1 hSw => by clear hHeld; obtain ⟨s0, s1, s2, s3, s4, s5, s6, s7⟩ := hSw; go_simp⟩) hHeld ?_
  try simp only [Act.put]
  refine wpAnyH_take (i := 3) (v := (.int .i64 o.bdg)) rfl (by kernel_rfl) (by kernel_rfl) (by kernel_rfl) (fun _ _ _ h => h) (Or.inl ⟨by rfl, fun w1 hSw => by clear hHeld; obtain ⟨s0, s1, s2, s3, s4, s5, s6, s7⟩ := hSw; go_simp⟩) hHeld ?_
  try simp only [Act.put]
  refine wpAnyH_take (i := 5) (v := (.pointer (some ⟨w.heap.size, 1, none⟩))) rfl (by kernel_rfl) (by kernel_rfl) (by kernel_rfl) (fun _ _ _ h => h) (Or.inl ⟨by rfl, fun w1 hSw => by clear hHeld; obtain ⟨s0, s1, s2, s3, s4, s5, s6, s7⟩ := hSw; go_simp⟩) hHeld ?_
  try simp only [Act.put]
  refine wpAnyH_take (i := 6) (v := (.pointer (some ⟨s.x, 0, none⟩))) rfl (by kernel_rfl) (by kernel_rfl) (by kernel_rfl) (fun _ _ _ h => h) (Or.inl ⟨by rfl, fun w1 hSw => by clear hHeld; obtain ⟨s0, s1, s2, s3, s4, s5, s6, s7⟩ := hSw; go_simp⟩) hHeld ?_
  try simp only [Act.put]
  refine wpAnyH_take (i := 7) (v := (.pointer (some ⟨w.heap.size + 1, 3, none⟩))) rfl (by kernel_rfl) (by kernel_rfl) (by kernel_rfl) (fun _ _ _ h => h) (Or.inl ⟨by rfl, fun w1 hSw => by clear hHeld; obtain ⟨s0, s1, s2, s3, s4, s5, s6, s7⟩ := hSw; go_simp⟩) hHeld ?_
  try simp only [Act.put]
  refine wpAnyH_take (i := 8) (v := (.int .i64 o.bdg)) rfl (by kernel_rfl) (by kernel_rfl) (by kernel_rfl) (fun _ _ _ h => h) (Or.inl ⟨by rfl, fun w1 hSw => by clear hHeld; obtain ⟨s0, s1, s2, s3, s4, s5, s6, s7⟩ := hSw; go_simp⟩) hHeld ?_
  try simp only [Act.put]
  refine wpAnyH_ready (rs := [4]) (by kernel_rfl) (by simp) ?_
  refine AllReadyH.cons rfl (fun K hK => ?_) AllReadyH.nil
  go_simp
  refine (renew_ok HPD.out.ta o.bdg).mono ?_
  rintro e w3 ⟨rfl, ht3, hg3⟩
  have HT3 := hide ht3
  have HG3 := hide hg3
  have HX3 := hide (HPD.out.xa.map HPD.out.ta.tb.map.block hg3)
  have HB3 := hide (HBD.out.grown hg3 hltm)
  clear ht3 hg3
  refine hK.out _ _ (HB3.out) (fun hHeld => ?_)
  clear hK K
  refine wpAnyH_ready (rs := [9]) (by kernel_rfl) (by simp) ?_
  refine AllReadyH.cons rfl (fun K hK => ?_) AllReadyH.nil
  go_simp
  refine (xrenew_ok HX3.out HP.out.ta.ok.rise HP.out.ta.ok.len12 o.bdg).mono ?_
  rintro e w4 ⟨rfl, hx4, hg4⟩
  have HB4 := hide (HB3.out.grown hg4 hltx)
  have HF := hide (HPD.out.both HT3.out HG3.out hx4 hg4)
  have hE : (naE o.bdg s.L == naE o.bdg s.L) = true := by simp
  clear hx4 hg4
  refine hK.out _ _ (HB4.out) (fun hHeld => ?_)
  clear hK K
  refine wpAnyH_take (i := 10) (v := (.bool true)) rfl (by kernel_rfl) (by kernel_rfl) (by kernel_rfl) (fun _ _ _ h => h) (Or.inl ⟨by rfl, fun w1 hSw => by clear hHeld; obtain ⟨s0, s1, s2, s3, s4, s5, s6, s7⟩ := hSw; go_simp⟩) hHeld ?_
  try simp only [Act.put]
  refine wpAnyH_take (i := 11) (v := (.bool true)) rfl (by kernel_rfl) (by kernel_rfl) (by kernel_rfl) (fun _ _ _ h => h) (Or.inl ⟨by rfl, fun w1 hSw => by clear hHeld; obtain ⟨s0, s1, s2, s3, s4, s5, s6, s7⟩ := hSw; go_simp⟩) hHeld ?_
  try simp only [Act.put]
  refine wpAnyH_done (by kernel_rfl) ?_ _
  clear hHeld
  try simp only [List.getElem_toArray]
  try simp only [List.getElem_cons_succ]
  try simp only [List.getElem_cons_zero]
  go_frame
  go_wp2_with fail
  go_ret
  rw [HL.out]
  exact ⟨rfl, HF.out.1, Two.ahead HBW.out HF.out.2.drew⟩

set_option maxRecDepth 100000 in
set_option maxHeartbeats 4000000 in
theorem answers_2 {w : World} {T : Int} {s : Sc} (h : Pr T w s) (o : Lo)  (hk : o.kind = 2) : Calls Try.prog 13 #[.agg #[.pointer (some ⟨s.b, 0, none⟩), .pointer (some ⟨s.x, 0, none⟩)], o.val] w fun e w' => e = .returned (.bool true) ∧ Pr T w' { s with L := dsL T s.L o } ∧ Two s.m s.x w w' := by
  have hltm := h.ta.tb.map.lt
  have hltx := h.xa.lt
  have HL : Hid (dsL T s.L o = del o.bdg s.L) := by show _ = _; unfold dsL; rw [if_neg (by rw [hk]; decide), if_neg (by rw [hk]; decide), if_pos hk]
  have n0 : (o.kind == 0) = false := by rw [hk]; decide
  have n1 : (o.kind == 1) = false := by rw [hk]; decide
  have n2 : (o.kind == 2) = true := by rw [hk]; decide
  have HBW : Hid (Below w.heap.size w ((w.alloc (.cells #[.pointer (some ⟨s.b, 0, none⟩), .pointer (some ⟨s.x, 0, none⟩)] 32)).alloc o.obj)) := (below_alloc w _).alloc (by simp) _
  have HP := hide (h.below HBW.out)
  have HBO := hide (bo_new w s o)
  clear h hk
  go_enter Try.func13, Try.ntmps13
  have oo1 := HBO.out.o1
  go_wp2_with fail
  clear oo1
  have hSZ : ((w.alloc (.cells #[.pointer (some ⟨s.b, 0, none⟩), .pointer (some ⟨s.x, 0, none⟩)] 32)).alloc o.obj).heap.size = w.heap.size + 2 := by simp
  generalize (w.alloc (.cells #[.pointer (some ⟨s.b, 0, none⟩), .pointer (some ⟨s.x, 0, none⟩)] 32)).alloc o.obj = W2 at *
  have HPD := hide HP.out.drew
  have HBD : Hid (Bo w.heap.size s o W2.drew) := ⟨HBO.out.p0, HBO.out.p1, HBO.out.o0, HBO.out.o1, HBO.out.o2, HBO.out.o3, HBO.out.o4, HBO.out.o5⟩
  refine wp_region_held_drew (S := (Bo w.heap.size s o)) (by kernel_rfl) (HBD.out) (fun hHeld => ?_)
  refine wpAnyH_take (i := 0) (v := (.pointer (some ⟨w.heap.size, 0, none⟩))) rfl (by kernel_rfl) (by kernel_rfl) (by kernel_rfl) (fun _ _ _ h => h) (Or.inl ⟨by rfl, fun w1 hSw => by clear hHeld; obtain ⟨s0, s1, s2, s3, s4, s5, s6, s7⟩ := hSw; go_simp⟩) hHeld ?_
  simp only [Act.put, List.setIfInBounds_toArray]
  refine wpAnyH_take (i := 1) (v := (.pointer (some ⟨s.b, 0, none⟩))) rfl (by kernel_rfl) (by kernel_rfl) (by kernel_rfl) (fun _ _ _ h => h) (Or.inl ⟨by rfl, fun w1 hSw => by clear hHeld; obtain ⟨s0, s1, s2, s3, s4, s5, s6, s7⟩ := hSw; go_simp⟩) hHeld ?_
  try simp only [Act.put]
  refine wpAnyH_take (i := 2) (v := (.pointer (some ⟨w.heap.size + 1, 3, none⟩))) rfl (by kernel_rfl) (by kernel_rfl) (by kernel_rfl) (fun _ _ _ h => h) (Or.inl ⟨by rfl, fun w1 hSw => by clear hHeld; obtain ⟨s0, s1, s2, s3, s4, s5, s6, s7⟩ := hSw; go_simp⟩) hHeld ?_
  try simp only [Act.put]
  refine wpAnyH_take (i := 3) (v := (.int .i64 o.bdg)) rfl (by kernel_rfl) (by kernel_rfl) (by kernel_rfl) (fun _ _ _ h => h) (Or.inl ⟨by rfl, fun w1 hSw => by clear hHeld; obtain ⟨s0, s1, s2, s3, s4, s5, s6, s7⟩ := hSw; go_simp⟩) hHeld ?_
  try simp only [Act.put]
  refine wpAnyH_take (i := 5) (v := (.pointer (some ⟨w.heap.size, 1, none⟩))) rfl (by kernel_rfl) (by kernel_rfl) (by kernel_rfl) (fun _ _ _ h => h) (Or.inl ⟨by rfl, fun w1 hSw => by clear hHeld; obtain ⟨s0, s1, s2, s3, s4, s5, s6, s7⟩ := hSw; go_simp⟩) hHeld ?_
  try simp only [Act.put]
  refine wpAnyH_take (i := 6) (v := (.pointer (some ⟨s.x, 0, none⟩))) rfl (by kernel_rfl) (by kernel_rfl) (by kernel_rfl) (fun _ _ _ h => h) (Or.inl ⟨by rfl, fun w1 hSw => by clear hHeld; obtain ⟨s0, s1, s2, s3, s4, s5, s6, s7⟩ := hSw; go_simp⟩) hHeld ?_
  try simp only [Act.put]
  refine wpAnyH_take (i := 7) (v := (.pointer (some ⟨w.heap.size + 1, 3, none⟩))) rfl (by kernel_rfl) (by kernel_rfl) (by kernel_rfl) (fun _ _ _ h => h) (Or.inl ⟨by rfl, fun w1 hSw => by clear hHeld; obtain ⟨s0, s1, s2, s3, s4, s5, s6, s7⟩ := hSw; go_simp⟩) hHeld ?_
  try simp only [Act.put]
  refine wpAnyH_take (i := 8) (v := (.int .i64 o.bdg)) rfl (by kernel_rfl) (by kernel_rfl) (by kernel_rfl) (fun _ _ _ h => h) (Or.inl ⟨by rfl, fun w1 hSw => by clear hHeld; obtain ⟨s0, s1, s2, s3, s4, s5, s6, s7⟩ := hSw; go_simp⟩) hHeld ?_
  try simp only [Act.put]
  refine wpAnyH_ready (rs := [4]) (by kernel_rfl) (by simp) ?_
  refine AllReadyH.cons rfl (fun K hK => ?_) AllReadyH.nil
  go_simp
  refine (drop_ok HPD.out.ta o.bdg).mono ?_
  rintro e w3 ⟨rfl, ht3, hg3⟩
  have HT3 := hide ht3
  have HG3 := hide hg3
  have HX3 := hide (HPD.out.xa.map HPD.out.ta.tb.map.block hg3)
  have HB3 := hide (HBD.out.grown hg3 hltm)
  clear ht3 hg3
  refine hK.out _ _ (HB3.out) (fun hHeld => ?_)
  clear hK K
  refine wpAnyH_ready (rs := [9]) (by kernel_rfl) (by simp) ?_
  refine AllReadyH.cons rfl (fun K hK => ?_) AllReadyH.nil
  go_simp
  refine (xdrop_ok HX3.out HP.out.ta.ok.len12 o.bdg).mono ?_
  rintro e w4 ⟨rfl, hx4, hg4⟩
  have HB4 := hide (HB3.out.grown hg4 hltx)
  have HF := hide (HPD.out.both HT3.out HG3.out hx4 hg4)
  have hE : (naE o.bdg s.L == naE o.bdg s.L) = true := by simp
  clear hx4 hg4
  refine hK.out _ _ (HB4.out) (fun hHeld => ?_)
  clear hK K
  refine wpAnyH_take (i := 10) (v := (.bool true)) rfl (by kernel_rfl) (by kernel_rfl) (by kernel_rfl) (fun _ _ _ h => h) (Or.inl ⟨by rfl, fun w1 hSw => by clear hHeld; obtain ⟨s0, s1, s2, s3, s4, s5, s6, s7⟩ := hSw; go_simp⟩) hHeld ?_
  try simp only [Act.put]
  refine wpAnyH_take (i := 11) (v := (.bool true)) rfl (by kernel_rfl) (by kernel_rfl) (by kernel_rfl) (fun _ _ _ h => h) (Or.inl ⟨by rfl, fun w1 hSw => by clear hHeld; obtain ⟨s0, s1, s2, s3, s4, s5, s6, s7⟩ := hSw; go_simp⟩) hHeld ?_
  try simp only [Act.put]
  refine wpAnyH_done (by kernel_rfl) ?_ _
  clear hHeld
  try simp only [List.getElem_toArray]
  try simp only [List.getElem_cons_succ]
  try simp only [List.getElem_cons_zero]
  go_frame
  go_wp2_with fail
  go_ret
  rw [HL.out]
  exact ⟨rfl, HF.out.1, Two.ahead HBW.out HF.out.2.drew⟩

set_option maxRecDepth 100000 in
set_option maxHeartbeats 4000000 in
theorem answers_3 {w : World} {T : Int} {s : Sc} (h : Pr T w s) (o : Lo)  (hk : o.kind = 3) : Calls Try.prog 13 #[.agg #[.pointer (some ⟨s.b, 0, none⟩), .pointer (some ⟨s.x, 0, none⟩)], o.val] w fun e w' => e = .returned (.bool true) ∧ Pr T w' { s with L := dsL T s.L o } ∧ Two s.m s.x w w' := by
  have hltm := h.ta.tb.map.lt
  have hltx := h.xa.lt
  have HL : Hid (dsL T s.L o = tkL s.L) := by show _ = _; unfold dsL; rw [if_neg (by rw [hk]; decide), if_neg (by rw [hk]; decide), if_neg (by rw [hk]; decide), if_pos hk]
  have n0 : (o.kind == 0) = false := by rw [hk]; decide
  have n1 : (o.kind == 1) = false := by rw [hk]; decide
  have n2 : (o.kind == 2) = false := by rw [hk]; decide
  have n3 : (o.kind == 3) = true := by rw [hk]; decide
  have HBW : Hid (Below w.heap.size w ((w.alloc (.cells #[.pointer (some ⟨s.b, 0, none⟩), .pointer (some ⟨s.x, 0, none⟩)] 32)).alloc o.obj)) := (below_alloc w _).alloc (by simp) _
  have HP := hide (h.below HBW.out)
  have HBO := hide (bo_new w s o)
  clear h hk
  go_enter Try.func13, Try.ntmps13
  have oo1 := HBO.out.o1
  go_wp2_with fail
  clear oo1
  have hSZ : ((w.alloc (.cells #[.pointer (some ⟨s.b, 0, none⟩), .pointer (some ⟨s.x, 0, none⟩)] 32)).alloc o.obj).heap.size = w.heap.size + 2 := by simp
  generalize (w.alloc (.cells #[.pointer (some ⟨s.b, 0, none⟩), .pointer (some ⟨s.x, 0, none⟩)] 32)).alloc o.obj = W2 at *
  have HPD := hide HP.out.drew
  have HBD : Hid (Bo w.heap.size s o W2.drew) := ⟨HBO.out.p0, HBO.out.p1, HBO.out.o0, HBO.out.o1, HBO.out.o2, HBO.out.o3, HBO.out.o4, HBO.out.o5⟩
  refine wp_region_held_drew (S := (Bo w.heap.size s o)) (by kernel_rfl) (HBD.out) (fun hHeld => ?_)
  refine wpAnyH_take (i := 0) (v := (.pointer (some ⟨w.heap.size, 0, none⟩))) rfl (by kernel_rfl) (by kernel_rfl) (by kernel_rfl) (fun _ _ _ h => h) (Or.inl ⟨by rfl, fun w1 hSw => by clear hHeld; obtain ⟨s0, s1, s2, s3, s4, s5, s6, s7⟩ := hSw; go_simp⟩) hHeld ?_
  simp only [Act.put, List.setIfInBounds_toArray]
  refine wpAnyH_take (i := 1) (v := (.pointer (some ⟨s.b, 0, none⟩))) rfl (by kernel_rfl) (by kernel_rfl) (by kernel_rfl) (fun _ _ _ h => h) (Or.inl ⟨by rfl, fun w1 hSw => by clear hHeld; obtain ⟨s0, s1, s2, s3, s4, s5, s6, s7⟩ := hSw; go_simp⟩) hHeld ?_
  try simp only [Act.put]
  refine wpAnyH_take (i := 3) (v := (.pointer (some ⟨w.heap.size, 1, none⟩))) rfl (by kernel_rfl) (by kernel_rfl) (by kernel_rfl) (fun _ _ _ h => h) (Or.inl ⟨by rfl, fun w1 hSw => by clear hHeld; obtain ⟨s0, s1, s2, s3, s4, s5, s6, s7⟩ := hSw; go_simp⟩) hHeld ?_
  try simp only [Act.put]
  refine wpAnyH_take (i := 4) (v := (.pointer (some ⟨s.x, 0, none⟩))) rfl (by kernel_rfl) (by kernel_rfl) (by kernel_rfl) (fun _ _ _ h => h) (Or.inl ⟨by rfl, fun w1 hSw => by clear hHeld; obtain ⟨s0, s1, s2, s3, s4, s5, s6, s7⟩ := hSw; go_simp⟩) hHeld ?_
  try simp only [Act.put]
  refine wpAnyH_ready (rs := [2]) (by kernel_rfl) (by simp) ?_
  refine AllReadyH.cons rfl (fun K hK => ?_) AllReadyH.nil
  go_simp
  refine (tick_ok HPD.out.ta).mono ?_
  rintro e w3 ⟨v3, rfl, ho3, ht3, hg3⟩
  obtain ⟨ad3, cap3, hv3⟩ := own_slice ho3
  subst hv3
  have HT3 := hide ht3
  have HG3 := hide hg3
  have HO3 := hide ho3
  have HX3 := hide (HPD.out.xa.map HPD.out.ta.tb.map.block hg3)
  have HB3 := hide (HBD.out.grown hg3 hltm)
  clear ht3 hg3 ho3
  refine hK.out _ _ (HB3.out) (fun hHeld => ?_)
  clear hK K
  refine wpAnyH_ready (rs := [5]) (by kernel_rfl) (by simp) ?_
  refine AllReadyH.cons rfl (fun K hK => ?_) AllReadyH.nil
  go_simp
  refine (xtick_ok HX3.out HP.out.ta.ok.len12 (HP.out.ta.ok.left HP.out.ta.t2)).mono ?_
  rintro e w4 ⟨v4, rfl, ho4, hx4, hg4⟩
  obtain ⟨ad4, cap4, hv4⟩ := own_slice ho4
  subst hv4
  have HB4 := hide (HB3.out.grown hg4 hltx)
  have HF := hide (HPD.out.both HT3.out HG3.out hx4 hg4)
  have HO34 := hide (rs_own_turn HO3.out (by obtain ⟨a, n, c, h1⟩ := HX3.out.blk; exact ⟨T, a, n, c, h1⟩) hg4)
  obtain ⟨ab3, hR3, _⟩ := Rs.own HO34.out
  obtain ⟨ab4, hR4, _⟩ := Rs.own ho4
  have HSM := hide (same_self (cap := cap3) (cap' := cap4) hR3 hR4 (by have := HP.out.ta.ok.len; have := tkO_len s.L; omega))
  clear hx4 hg4 ho4 hR3 hR4
  refine hK.out _ _ (HB4.out) (fun hHeld => ?_)
  clear hK K
  refine wpAnyH_ready (rs := [6]) (by kernel_rfl) (by simp) ?_
  refine AllReadyH.cons rfl (fun K hK => ?_) AllReadyH.nil
  go_simp
  refine HSM.out.mono ?_
  rintro e w5 ⟨rfl, hb5⟩
  have HB5 := hide (HB4.out.below hb5)
  have HF5 : Hid (Pr T w5 { s with L := tkL s.L } ∧ Two s.m s.x W2.drew w5) := ⟨HF.out.1.below hb5, HF.out.2.behind hb5⟩
  clear hb5 HF
  refine hK.out _ _ (HB5.out) (fun hHeld => ?_)
  clear hK K
  refine wpAnyH_take (i := 7) (v := (.bool true)) rfl (by kernel_rfl) (by kernel_rfl) (by kernel_rfl) (fun _ _ _ h => h) (Or.inl ⟨by rfl, fun w1 hSw => by clear hHeld; obtain ⟨s0, s1, s2, s3, s4, s5, s6, s7⟩ := hSw; go_simp⟩) hHeld ?_
  try simp only [Act.put]
  refine wpAnyH_done (by kernel_rfl) ?_ _
  clear hHeld
  try simp only [List.getElem_toArray]
  try simp only [List.getElem_cons_succ]
  try simp only [List.getElem_cons_zero]
  go_frame
  go_wp2_with fail
  go_ret
  rw [HL.out]
  exact ⟨rfl, HF5.out.1, Two.ahead HBW.out HF5.out.2.drew⟩
end Go.Proofs.Ytjpcghkdedldiaa
