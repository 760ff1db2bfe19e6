import Derived.Test.YtabenedaeaocbaaPrC
namespace Go.Proofs.Ytabenedaeaocbaa
open Go.RowKit

/-- where a fault stands -/
def fa (p : Nat) (f : Int) : Int := if f = 0 then 0 else (p : Int)
/-- a call with one argument: the reader and the document's answer alike, and go alike -/
structure Bx (Fp Fr : FuncId) (x V : Value) (b : ByteArray) (p : Nat) (f : Int) (p' : Nat) (f' : Int) : Prop where
  le : p' ≤ b.size
  pk : ∀ (w : World) (B : Nat), Rd w B b p f → Calls Try.prog Fp #[.pointer (some ⟨B, 0, none⟩), x] w fun e w' => e = .returned V ∧ Rd w' B b p' f' ∧ w.grownBy w' (some B)
  rf : ∀ (w : World) (G o : Nat), RR w G o b p f (fa p f) → Calls Try.prog Fr #[.pointer (some ⟨G, o, none⟩), x] w fun e w' => e = .returned V ∧ RR w' G o b p' f' (fa p' f') ∧ RW G o w w'
structure By (Fp Fr : FuncId) (V : Value) (b : ByteArray) (p : Nat) (f : Int) (p' : Nat) (f' : Int) : Prop where
  le : p' ≤ b.size
  pk : ∀ (w : World) (B : Nat), Rd w B b p f → Calls Try.prog Fp #[.pointer (some ⟨B, 0, none⟩)] w fun e w' => e = .returned V ∧ Rd w' B b p' f' ∧ w.grownBy w' (some B)
  rf : ∀ (w : World) (G o : Nat), RR w G o b p f (fa p f) → Calls Try.prog Fr #[.pointer (some ⟨G, o, none⟩)] w fun e w' => e = .returned V ∧ RR w' G o b p' f' (fa p' f') ∧ RW G o w w'
theorem bx_of {Fp Fr : FuncId} {x A Z : Value} {b : ByteArray} {p : Nat} {f : Int} {q k : Nat} (hp : p ≤ b.size) (hq : k = 0 → q ≤ b.size)
    (l1 : ∀ (w : World) (B : Nat), Rd w B b p 0 → Calls Try.prog Fp #[.pointer (some ⟨B, 0, none⟩), x] w (FPost w B b p A Z q k))
    (d1 : ∀ (w : World) (B : Nat), f ≠ 0 → Rd w B b p f → Calls Try.prog Fp #[.pointer (some ⟨B, 0, none⟩), x] w fun e w' => e = .returned Z ∧ Below w.heap.size w w')
    (l2 : ∀ (w : World) (G o : Nat), RR w G o b p 0 0 → Calls Try.prog Fr #[.pointer (some ⟨G, o, none⟩), x] w (HPost w G o p b A Z q k))
    (d2 : ∀ (w : World) (G o : Nat) (a : Int), f ≠ 0 → RR w G o b p f a → Calls Try.prog Fr #[.pointer (some ⟨G, o, none⟩), x] w fun e w' => e = .returned Z ∧ RR w' G o b p f a ∧ RW G o w w') :
    ∃ V p' f', (V = A ∨ V = Z) ∧ Bx Fp Fr x V b p f p' f' := by
  by_cases hf : f = 0
  · subst hf
    by_cases hk : k = 0
    · refine ⟨A, q, 0, .inl rfl, hq hk, fun w B h => (l1 w B h).mono fun e w' F => ⟨(F.ok hk).1, (F.ok hk).2, F.grown⟩, fun w G o h => (l2 w G o (by simpa [fa] using h)).mono fun e w' F => ?_⟩
      rcases F with ⟨_, h1, h2, h3⟩ | ⟨h0, _⟩
      · exact ⟨h1, by simpa [fa] using h2, h3⟩
      · exact absurd hk h0
    · refine ⟨Z, p, k, .inr rfl, hp, fun w B h => (l1 w B h).mono fun e w' F => ⟨(F.no hk).1, (F.no hk).2, F.grown⟩, fun w G o h => (l2 w G o (by simpa [fa] using h)).mono fun e w' F => ?_⟩
      rcases F with ⟨h0, _⟩ | ⟨_, h1, h2, h3⟩
      · exact absurd h0 hk
      · exact ⟨h1, by rw [fa, if_neg (by omega)]; exact h2, h3⟩
  · exact ⟨Z, p, f, .inr rfl, hp, fun w B h => (d1 w B hf h).mono fun e w' F => ⟨F.1, h.below F.2 h.lt, grown_below F.2 _⟩, fun w G o h => d2 w G o _ hf h⟩
theorem by_of {Fp Fr : FuncId} {A Z : Value} {b : ByteArray} {p : Nat} {f : Int} {q k : Nat} (hp : p ≤ b.size) (hq : k = 0 → q ≤ b.size)
    (l1 : ∀ (w : World) (B : Nat), Rd w B b p 0 → Calls Try.prog Fp #[.pointer (some ⟨B, 0, none⟩)] w (FPost w B b p A Z q k))
    (d1 : ∀ (w : World) (B : Nat), f ≠ 0 → Rd w B b p f → Calls Try.prog Fp #[.pointer (some ⟨B, 0, none⟩)] w fun e w' => e = .returned Z ∧ Below w.heap.size w w')
    (l2 : ∀ (w : World) (G o : Nat), RR w G o b p 0 0 → Calls Try.prog Fr #[.pointer (some ⟨G, o, none⟩)] w (HPost w G o p b A Z q k))
    (d2 : ∀ (w : World) (G o : Nat) (a : Int), f ≠ 0 → RR w G o b p f a → Calls Try.prog Fr #[.pointer (some ⟨G, o, none⟩)] w fun e w' => e = .returned Z ∧ RR w' G o b p f a ∧ RW G o w w') :
    ∃ V p' f', (V = A ∨ V = Z) ∧ By Fp Fr V b p f p' f' := by
  by_cases hf : f = 0
  · subst hf
    by_cases hk : k = 0
    · refine ⟨A, q, 0, .inl rfl, hq hk, fun w B h => (l1 w B h).mono fun e w' F => ⟨(F.ok hk).1, (F.ok hk).2, F.grown⟩, fun w G o h => (l2 w G o (by simpa [fa] using h)).mono fun e w' F => ?_⟩
      rcases F with ⟨_, h1, h2, h3⟩ | ⟨h0, _⟩
      · exact ⟨h1, by simpa [fa] using h2, h3⟩
      · exact absurd hk h0
    · refine ⟨Z, p, k, .inr rfl, hp, fun w B h => (l1 w B h).mono fun e w' F => ⟨(F.no hk).1, (F.no hk).2, F.grown⟩, fun w G o h => (l2 w G o (by simpa [fa] using h)).mono fun e w' F => ?_⟩
      rcases F with ⟨h0, _⟩ | ⟨_, h1, h2, h3⟩
      · exact absurd h0 hk
      · exact ⟨h1, by rw [fa, if_neg (by omega)]; exact h2, h3⟩
  · exact ⟨Z, p, f, .inr rfl, hp, fun w B h => (d1 w B hf h).mono fun e w' F => ⟨F.1, h.below F.2 h.lt, grown_below F.2 _⟩, fun w G o h => d2 w G o _ hf h⟩
theorem numQ_le (b : ByteArray) (p most above : Nat) (ha : above ≠ 0) (hp : p ≤ b.size) (h : numK b p most above = 0) : numQ b p ≤ b.size := by
  refine (num_parts b p most hp ?_).2.2.2
  unfold numK at h ⊢
  split at h
  · next h1 => rw [if_pos h1]; exact h
  · next h1 =>
    rw [if_neg h1]
    split at h
    · exact absurd h ha
    · next h2 => rw [if_neg h2]
section
variable {b : ByteArray} {p : Nat} {f : Int} (hp : p ≤ b.size) (hb : b.size ≤ 140737488351232)
include hp hb
theorem num_both (most : Nat) : ∃ (v : Int) (p' : Nat) (f' : Int), Bx 11 12 (.int .u64 (most : Int)) (.int .u64 v) b p f p' f' := by
  obtain ⟨V, p', f', hV, h⟩ := bx_of (f := f) hp (numQ_le b p most 21 (by decide) hp) (fun w B h => rnum_any (most := most) h hp hb) (fun w B hf h => rnum_dead h hf) (fun w G o h => qnum_live h hp hb) (fun w G o a hf h => qnum_dead h hf)
  rcases hV with rfl | rfl
  · exact ⟨_, p', f', h⟩
  · exact ⟨_, p', f', h⟩
theorem list_both (most : Int) (hm : most ≤ 9223372036854775807) : ∃ (v : Int) (p' : Nat) (f' : Int), Bx 13 14 (.int .i64 most) (.int .i64 v) b p f p' f' := by
  obtain ⟨V, p', f', hV, h⟩ := bx_of (f := f) hp (numQ_le b p most.toNat 23 (by decide) hp) (fun w B h => rlist_any hm h hp hb) (fun w B hf h => rlist_dead h hf) (fun w G o h => qlist_live hm h hp hb) (fun w G o a hf h => qlist_dead hm h hf)
  rcases hV with rfl | rfl
  · exact ⟨_, p', f', h⟩
  · exact ⟨_, p', f', h⟩
theorem text_both (most : Int) (hm : most ≤ 9223372036854775807) : ∃ (v : ByteArray) (p' : Nat) (f' : Int), Bx 15 16 (.int .i64 most) (.string v) b p f p' f' := by
  obtain ⟨V, p', f', hV, h⟩ := bx_of (f := f) hp (fun h => by unfold textK at h; split at h; · contradiction
                                                              split at h; · cases h
                                                              omega) (fun w B h => rtext_any hm h hp hb) (fun w B hf h => rtext_dead h hf) (fun w G o h => qtext_live hm h hp hb) (fun w G o a hf h => qtext_dead hm h hf)
  rcases hV with rfl | rfl
  · exact ⟨_, p', f', h⟩
  · exact ⟨_, p', f', h⟩
theorem bits_both : ∃ (v : Int) (p' : Nat) (f' : Int), By 17 18 (.int .u64 v) b p f p' f' := by
  obtain ⟨V, p', f', hV, h⟩ := by_of (f := f) hp (fun h => by unfold bitsK at h; split at h; · cases h
                                                              omega) (fun w B h => rbits_any h hp hb) (fun w B hf h => rbits_dead h hf) (fun w G o h => qbits_live h hp hb) (fun w G o a hf h => qbits_dead h hf)
  rcases hV with rfl | rfl
  · exact ⟨_, p', f', h⟩
  · exact ⟨_, p', f', h⟩
end

/-- what a call turns: the reader's block, and four cells of the row of the document's readers -/
structure Jm (B G o : Nat) (w w' : World) : Prop where
  os : w'.os = w.os
  tape : w'.tape = w.tape
  output : w'.output = w.output
  size : w.heap.size ≤ w'.heap.size
  other : ∀ k, k < w.heap.size → k ≠ B → k ≠ G → w'.heap[k]? = w.heap[k]?
  same : ∀ cur, w.heap[G]? = some (.cells cur 29 (0, 0)) → ∃ cur', w'.heap[G]? = some (.cells cur' 29 (0, 0)) ∧ cur'.size = cur.size ∧ ∀ i, i < o ∨ o + 4 ≤ i → cur'[i]? = cur[i]?
theorem Jm.refl (B G o : Nat) (w : World) : Jm B G o w w := ⟨rfl, rfl, rfl, Nat.le_refl _, fun _ _ _ _ => rfl, fun cur h => ⟨cur, h, rfl, fun _ _ => rfl⟩⟩
theorem Jm.trans {B G o : Nat} {a b c : World} (h : Jm B G o a b) (k : Jm B G o b c) : Jm B G o a c :=
  ⟨k.os.trans h.os, k.tape.trans h.tape, k.output.trans h.output, Nat.le_trans h.size k.size, fun i hi n1 n2 => (k.other i (Nat.lt_of_lt_of_le hi h.size) n1 n2).trans (h.other i hi n1 n2), fun cur hc => by
    obtain ⟨c1, h1, h2, h3⟩ := h.same cur hc
    obtain ⟨c2, g1, g2, g3⟩ := k.same c1 h1
    exact ⟨c2, g1, g2.trans h2, fun i hi => (g3 i hi).trans (h3 i hi)⟩⟩
theorem Jm.heap {B G o : Nat} {w w' : World} (h : w'.heap = w.heap) (h1 : w'.os = w.os) (h2 : w'.tape = w.tape) (h3 : w'.output = w.output) : Jm B G o w w' :=
  ⟨h1, h2, h3, by rw [h]; exact Nat.le_refl _, fun _ _ _ _ => by rw [h], fun cur hc => ⟨cur, by rw [h]; exact hc, rfl, fun _ _ => rfl⟩⟩
theorem Jm.grown {B G o : Nat} {w w' : World} (h : w.grownBy w' (some B)) (hn : G ≠ B) : Jm B G o w w' :=
  ⟨h.os, h.tape, h.output, h.size, fun k hk n1 _ => h.block k hk (fun e => n1 (by injection e)), fun cur hc => ⟨cur, (h.block G (lt_of_block hc) (fun e => hn (by injection e))).trans hc, rfl, fun _ _ => rfl⟩⟩
theorem Jm.ofRW {B G o : Nat} {w w' : World} (h : RW G o w w') : Jm B G o w w' := ⟨h.os, h.tape, h.output, by rw [h.size]; exact Nat.le_refl _, fun k _ _ n2 => h.other k n2, h.same⟩
theorem Jm.alloc {B G o : Nat} {w w' : World} (h : Jm B G o w w') (x : Obj) : Jm B G o w (w'.alloc x) :=
  h.trans ⟨rfl, rfl, rfl, by rw [World.size_alloc]; omega, fun k hk _ _ => Below.heap_alloc w' x k hk, fun cur hc => ⟨cur, (Below.heap_alloc w' x G (lt_of_block hc)).trans hc, rfl, fun _ _ => rfl⟩⟩
/-- midway of does -/
structure Jr (w0 : World) (H B G o : Nat) (b : ByteArray) (k m : Int) (p1 : Nat) (f1 : Int) (p2 : Nat) (f2 : Int) (W : World) : Prop where
  rd : Rd W B b p1 f1
  rr : RR W G o b p2 f2 (fa p2 f2)
  op : W.heap[H]? = some (.cells #[.int .i64 k, .int .i64 m] 32 (0, 0))
  bg : B ≠ G
  hb : H ≠ B
  hg : H ≠ G
  mv : Jm B G o w0 W
section
variable {w0 W W' : World} {H B G o : Nat} {b : ByteArray} {k m : Int} {p1 : Nat} {f1 : Int} {p2 : Nat} {f2 : Int}
theorem Jr.drew (h : Jr w0 H B G o b k m p1 f1 p2 f2 W) : Jr w0 H B G o b k m p1 f1 p2 f2 W.drew := ⟨h.rd, h.rr.keep rfl, h.op, h.bg, h.hb, h.hg, h.mv.trans (Jm.heap rfl rfl rfl rfl)⟩
theorem Jr.pk (h : Jr w0 H B G o b k m p1 f1 p2 f2 W) {p' : Nat} {f' : Int} (hR : Rd W' B b p' f') (hg : W.grownBy W' (some B)) : Jr w0 H B G o b k m p' f' p2 f2 W' :=
  ⟨hR, h.rr.keep (hg.block G h.rr.lt (fun e => h.bg (by injection e with e; exact e.symm))), (hg.block H (lt_of_block h.op) (fun e => h.hb (by injection e))).trans h.op, h.bg, h.hb, h.hg, h.mv.trans (Jm.grown hg (fun e => h.bg e.symm))⟩
theorem Jr.rf (h : Jr w0 H B G o b k m p1 f1 p2 f2 W) {p' : Nat} {f' : Int} (hR : RR W' G o b p' f' (fa p' f')) (hg : RW G o W W') : Jr w0 H B G o b k m p1 f1 p' f' W' :=
  ⟨(hg.other B h.bg).trans h.rd, hR, (hg.other H h.hg).trans h.op, h.bg, h.hb, h.hg, h.mv.trans (Jm.ofRW hg)⟩
theorem Jr.c0 (h : Jr w0 H B G o b k m p1 f1 p2 f2 W) : W.cell? ⟨H, 0, none⟩ = some (.int .i64 k) := by simp [World.cell?, h.op]
theorem Jr.c1 (h : Jr w0 H B G o b k m p1 f1 p2 f2 W) : W.cell? ⟨H, 1, none⟩ = some (.int .i64 m) := by simp [World.cell?, h.op]
end

set_option maxHeartbeats 400000 in
theorem rdclone_any {w : World} {B : Nat} {b : ByteArray} {p f : Int} (h : Rd w B b p f) :
    Calls Try.prog 6 #[.pointer (some ⟨B, 0, none⟩)] w fun e w' => e = .returned (.pointer (some ⟨w.heap.size, 0, none⟩)) ∧ Rd w' w.heap.size b p f ∧ Below w.heap.size w w' := by
  have c0 := h.c0
  have c1 := h.c1
  have c2 := h.c2
  clear h
  go_enter Try.func6, Try.ntmps6
  go_wp2_with fail
  go_ret
  exact ⟨rfl, heap_alloc_new w _, (Below.refl _ w).alloc (Nat.le_refl _) _⟩

set_option maxHeartbeats 1000000 in
set_option maxRecDepth 8000 in
theorem same_any {w : World} {B G o p : Nat} {b : ByteArray} {f : Int} (h : Rd w B b p f) (hr : RR w G o b p f (fa p f)) (hp : p ≤ b.size) (hb : b.size ≤ 140737488351232) :
    Calls Try.prog 8 #[.pointer (some ⟨B, 0, none⟩), .pointer (some ⟨G, o, none⟩)] w fun e w' => e = .returned (.bool true) ∧ ∃ n, w' = w.drewN n := by
  have HF : Hid (Calls Try.prog 19 #[.pointer (some ⟨B, 0, none⟩)] w fun e w' => e = .returned (.tuple #[.int .i64 f, .int .i64 (fa p f)]) ∧ ∃ n, w' = w.drewN n) := fault_any h
  have HE : Hid (∀ n, Calls Try.prog 20 #[.pointer (some ⟨B, 0, none⟩)] (w.drewN n) fun e w' => e = .returned (.tuple #[.int .i64 (endE b p f), .int .i64 (endP b p f)]) ∧ ∃ m, w' = (w.drewN n).drewN m) := fun n => end_any (h.drew n) (by omega) (by omega) hb
  have HQ : Hid (∀ n, Calls Try.prog 21 #[.pointer (some ⟨G, o, none⟩)] (w.drewN n) fun e w' => e = .returned (.tuple #[.int .i64 (endE b p f), .int .i64 (endP b p f)]) ∧ ∃ m, w' = (w.drewN n).drewN m) := fun n => qend_any (hr.drewN n)
  have HRd := hide h
  have c0 := hr.c0
  have c1 := hr.c1
  have c2 := hr.c2
  have c3 := hr.c3
  clear h hr
  generalize fa p f = fp at *
  generalize endE b p f = ee at *
  generalize endP b p f = ep at *
  go_enter Try.func8, Try.ntmps8
  go_wp2_with fail
  refine HF.out.mono ?_
  rintro e w1 ⟨rfl, n1, rfl⟩
  go_wp2_with fail
  refine (HE.out _).mono ?_
  rintro e w1 ⟨rfl, n2, rfl⟩
  go_wp2_with fail
  refine (HQ.out _).mono ?_
  rintro e W1 ⟨rfl, n3, hW1⟩
  have HR1 : Hid (Rd W1 B b p f) := by rw [hW1]; exact HRd.out
  have HW1 : Hid (∀ n, ∃ m, W1.drewN n = w.drewN m) := fun n => ⟨n1 + n2 + n3 + n, by rw [hW1]; simp only [World.drewN_drewN]⟩
  have d0 : W1.cell? ⟨G, o, none⟩ = some (.string b) := by rw [hW1]; exact c0
  have d1 : W1.cell? ⟨G, o + 1, none⟩ = some (.int .i64 p) := by rw [hW1]; exact c1
  have d2 : W1.cell? ⟨G, o + 2, none⟩ = some (.int .i64 f) := by rw [hW1]; exact c2
  have d3 : W1.cell? ⟨G, o + 3, none⟩ = some (.int .i64 fp) := by rw [hW1]; exact c3
  clear hW1 c0 c1 c2 c3
  go_wp2_with fail
  go_quiet (first | (go_at_call 22; exact Calls.quiet_of_same (at_any (b := b) (p := (p : Int)) (f := f) (HR1.out.drew _))) | (go_at_call 23; exact Calls.quiet_of (left_any (b := b) (p := (p : Int)) (f := f) (HR1.out.drew _) (by omega) (by omega) hb)))
  go_wp2_with fail
  go_ret
  exact ⟨rfl, HW1.out _⟩
end Go.Proofs.Ytabenedaeaocbaa
