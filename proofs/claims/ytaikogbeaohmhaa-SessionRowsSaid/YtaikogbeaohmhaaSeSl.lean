import Derived.Test.YtaikogbeaohmhaaSeX
namespace Go.Proofs.Ytaikogbeaohmhaa
open Go.RowKit

section
variable {B : Nat} {w w' : World} {b1 g1 c1 b2 g2 c2 : Nat} {D E : List Dk}
theorem atD_set {D : List Dk} {s : Int} {d : Dk} (h : atD D s ≠ none) (x : Int) : atD (D.set s.toNat d) x = if x = s then some d else atD D x := by
  cases ha : atD D s with
  | none => exact absurd ha h
  | some e =>
    obtain ⟨i, rfl, hi, _⟩ := atD_some ha
    unfold atD
    by_cases hx : x = (i : Int)
    · subst hx
      rw [if_pos (by omega), if_pos rfl]
      simp only [Int.toNat_natCast]
      exact List.getElem?_set_self hi
    · rw [if_neg hx]
      by_cases h0 : 0 ≤ x
      · rw [if_pos h0, if_pos h0, List.getElem?_set_ne (by simp only [Int.toNat_natCast]; omega)]
      · rw [if_neg h0, if_neg h0]
theorem tOpen_other {s life se x : Int} (hx : x ≠ s) : atD (tOpen D s life se).D x = atD D x := by
  unfold tOpen
  cases ha : atD D s with
  | none => rfl
  | some d =>
    simp only
    split
    · rfl
    · split
      · rfl
      · split
        · rfl
        · show atD (D.set s.toNat _) x = _
          rw [atD_set (by rw [ha]; exact fun h => by cases h), if_neg hx]
theorem tOpen_same {s life se : Int} (h : atD D s = atD E s) : atD (tOpen D s life se).D s = atD (tOpen E s life se).D s := by
  unfold tOpen
  rw [← h]
  cases ha : atD D s with
  | none => exact h
  | some d =>
    have ha2 : atD E s = some d := h ▸ ha
    simp only
    split
    · exact h
    · split
      · exact h
      · split
        · exact h
        · show atD (D.set s.toNat _) s = atD (E.set s.toNat _) s
          rw [atD_set (by rw [ha]; exact fun h => by cases h), if_pos rfl, atD_set (by rw [ha2]; exact fun h => by cases h), if_pos rfl]
theorem tAnswer_other {s x : Int} {rp : ByteArray} (hx : x ≠ s) : atD (tAnswer D s rp).D x = atD D x := by
  unfold tAnswer
  cases ha : atD D s with
  | none => rfl
  | some d =>
    simp only
    split
    · rfl
    · split
      · rfl
      · show atD (D.set s.toNat _) x = _
        rw [atD_set (by rw [ha]; exact fun h => by cases h), if_neg hx]
theorem tAnswer_same {s : Int} {rp : ByteArray} (h : atD D s = atD E s) : atD (tAnswer D s rp).D s = atD (tAnswer E s rp).D s := by
  unfold tAnswer
  rw [← h]
  cases ha : atD D s with
  | none => exact h
  | some d =>
    have ha2 : atD E s = some d := h ▸ ha
    simp only
    split
    · exact h
    · split
      · exact h
      · show atD (D.set s.toNat _) s = atD (E.set s.toNat _) s
        rw [atD_set (by rw [ha]; exact fun h => by cases h), if_pos rfl, atD_set (by rw [ha2]; exact fun h => by cases h), if_pos rfl]
theorem tHello_at {s life : Int} (h : atD D s = atD E s) : tHello E s life = tHello D s life := by unfold tHello; rw [h]
theorem tAsk_at {s life se n : Int} (h : atD D s = atD E s) : tAsk E s life se n = tAsk D s life se n := by unfold tAsk; rw [h]
/-- two tables -/
structure S2 (B : Nat) (w : World) (b1 g1 c1 : Nat) (D : List Dk) (b2 g2 c2 : Nat) (E : List Dk) : Prop where
  t : Tm 92 B w b1 g1 c1 D
  u : Tm 92 B w b2 g2 c2 E
  ne : g1 ≠ g2
  d : DOk D
  e : DOk E
theorem Tm.onG {T T' b g cap b' g' cap' : Nat} {D' : List Dk} (h : Tm T B w b g cap D) (h' : Tm T' B w b' g' cap' D') (hT : T ≠ 96) (hn : g ≠ g') (ho : On g' w w') : Tm T B w' b g cap D := by
  obtain ⟨cs, hcs⟩ := own_blk h'.row (k := g') rfl
  exact h.keep (ho.block b h.lt (blk_ne h.hb hcs hT)) (ho.block g h.gl hn)
theorem S2.below (h : S2 B w b1 g1 c1 D b2 g2 c2 E) (hb : Below w.heap.size w w') : S2 B w' b1 g1 c1 D b2 g2 c2 E := ⟨h.t.below hb, h.u.below hb, h.ne, h.d, h.e⟩
theorem S2.on1 {D' : List Dk} (h : S2 B w b1 g1 c1 D b2 g2 c2 E) (ht : Tm 92 B w' b1 g1 c1 D') (hd : DOk D') (ho : On g1 w w') : S2 B w' b1 g1 c1 D' b2 g2 c2 E := ⟨ht, h.u.onG h.t (by decide) (Ne.symm h.ne) ho, h.ne, hd, h.e⟩
theorem S2.on2 {E' : List Dk} (h : S2 B w b1 g1 c1 D b2 g2 c2 E) (ht : Tm 92 B w' b2 g2 c2 E') (hd : DOk E') (ho : On g2 w w') : S2 B w' b1 g1 c1 D b2 g2 c2 E' := ⟨h.t.onG h.u (by decide) h.ne ho, ht, h.ne, h.d, hd⟩
/-- a call's box -/
def Rx (w : World) (X : Nat) (q : Rw) : Prop := w.heap[X]? = some (.cells #[.int .i64 q.k, .int .i64 q.on, .int .i64 q.sl, .int .i64 q.li, .int .i64 q.se, .int .i64 q.nu, .string q.rp] 56 (0, 0))
theorem Rx.lt {X : Nat} {q : Rw} (h : Rx w X q) : X < w.heap.size := lt_of_block h
theorem Rx.below {X : Nat} {q : Rw} (h : Rx w X q) (hb : Below w.heap.size w w') : Rx w' X q := (hb.block _ h.lt).trans h
theorem Rx.onT {T X b g cap : Nat} {q : Rw} (h : Rx w X q) (ht : Tm T B w b g cap D) (ho : On g w w') : Rx w' X q := by
  obtain ⟨cs, hcs⟩ := own_blk ht.row (k := g) rfl
  exact (ho.block _ h.lt (blk_ne h hcs (by decide))).trans h
theorem Rx.cells {X : Nat} {q : Rw} (h : Rx w X q) : w.cell? ⟨X, 0, none⟩ = some (.int .i64 q.k) ∧ w.cell? ⟨X, 1, none⟩ = some (.int .i64 q.on) ∧ w.cell? ⟨X, 2, none⟩ = some (.int .i64 q.sl) ∧ w.cell? ⟨X, 3, none⟩ = some (.int .i64 q.li) ∧ w.cell? ⟨X, 4, none⟩ = some (.int .i64 q.se) ∧ w.cell? ⟨X, 5, none⟩ = some (.int .i64 q.nu) ∧ w.cell? ⟨X, 6, none⟩ = some (.string q.rp) := by
  unfold Rx at h
  simp [World.cell?, h]
end
theorem Sr.seven {w : World} {ad : Option Addr} {ab ao : Nat} {L : List Rw} (h : Sr Rw.cs 7 w ad ab ao L) {i : Nat} (hi : i < L.length) :
    w.cell? ⟨ab, ao + i * 7, none⟩ = some (.int .i64 (L[i]).k) ∧ w.cell? ⟨ab, ao + i * 7 + 1, none⟩ = some (.int .i64 (L[i]).on) ∧ w.cell? ⟨ab, ao + i * 7 + 2, none⟩ = some (.int .i64 (L[i]).sl) ∧ w.cell? ⟨ab, ao + i * 7 + 3, none⟩ = some (.int .i64 (L[i]).li) ∧ w.cell? ⟨ab, ao + i * 7 + 4, none⟩ = some (.int .i64 (L[i]).se) ∧ w.cell? ⟨ab, ao + i * 7 + 5, none⟩ = some (.int .i64 (L[i]).nu) ∧ w.cell? ⟨ab, ao + i * 7 + 6, none⟩ = some (.string (L[i]).rp) :=
  ⟨h.c i hi 0 (by decide), h.c i hi 1 (by decide), h.c i hi 2 (by decide), h.c i hi 3 (by decide), h.c i hi 4 (by decide), h.c i hi 5 (by decide), h.c i hi 6 (by decide)⟩

set_option maxHeartbeats 8000000 in
set_option maxRecDepth 8000 in
theorem sessionSlots_walk {w : World} {ad : Option Addr} {ab ao cap : Nat} {Q : List Rw} (hQ : Sr Rw.cs 7 w ad ab ao Q) (hQl : Q.length ≤ 2199023255488) (_hQb : ∀ i (h : i < Q.length), I6 (Q[i]).on ∧ I6 (Q[i]).sl ∧ I6 (Q[i]).li ∧ I6 (Q[i]).se ∧ I6 (Q[i]).nu) {slot : Int} (_hs : -9223372036854775808 ≤ slot ∧ slot ≤ 9223372036854775807) :
    Calls Try.prog 7 #[.slice ad Q.length cap, .int .i64 slot] w fun e w' => e = .returned (.bool true) ∧ Below w.heap.size w w' := by
  have HQ := hide hQ
  clear hQ _hQb _hs
  go_enter Try.func7, Try.ntmps7
  go_wp2_with fail
  refine (tnew_any w 8).mono ?_
  rintro e w1 (⟨h, _⟩ | ⟨n, b1, g1, c1, hn, _, _, rfl, hT1, hB1⟩)
  · exact absurd (by decide) h
  obtain rfl : n = 8 := by omega
  have HT1 := hide hT1
  have HB1 := hide hB1
  clear hn hT1 hB1
  go_wp2_with fail
  refine (tnew_any w1 8).mono ?_
  rintro e w2 (⟨h, _⟩ | ⟨n, b2, g2, c2, hn, _, _, rfl, hT2, hB2⟩)
  · exact absurd (by decide) h
  obtain rfl : n = 8 := by omega
  have HS : Hid (S2 w.heap.size w2 b1 g1 c1 (newD 8) b2 g2 c2 (newD 8)) := hide ⟨HT1.out.below hB2, hT2.wide HB1.out.size, by have h1 := HT1.out.gl; have h2 := hT2.gB; omega, newD_ok 8, newD_ok 8⟩
  have HB := hide (HB1.out.trans (hB2.mono HB1.out.size))
  clear hn hT2 hB2 HT1 HB1
  go_wp2_with fail
  refine (awake_any w2).mono ?_
  rintro e w3 ⟨rfl, hB3⟩
  have HS := hide (HS.out.below hB3)
  have HB := hide (HB.out.trans (hB3.mono HB.out.size))
  clear hB3
  generalize newD 8 = D0 at *
  go_wp2_with fail
  go_loopw [9] (fun s wr => ∃ (i : Nat) (D E : List Dk), i ≤ Q.length ∧ s = .int .i64 (i : Int) ∧ Hid (S2 w.heap.size wr b1 g1 c1 D b2 g2 c2 E) ∧ Hid (atD D slot = atD E slot) ∧ Hid (Below w.heap.size w wr)) (fun s _ => Q.length - (intOf s).toNat)
  case atStart => exact ⟨0, D0, D0, Nat.zero_le _, rfl, HS, hide rfl, HB⟩
  case round =>
    clear HS HB
    obtain ⟨i, D, E, hi, rfl, HS, HA, HB⟩ := hrel
    by_cases hiq : i < Q.length
    · have hii : (i : Int) < (Q.length : Int) := by omega
      have hat := HQ.out.at_ (by omega)
      subst hat
      have hR := HQ.out.below (by decide) Rw.cs0 HB.out
      obtain ⟨q0, q1, q2, q3, q4, q5, q6⟩ := hR.seven hiq
      have hlt := hR.lt (by omega) (by decide) Rw.cs0
      clear hR
      generalize Q[i] = q at *
      have HX : Hid (Rx (wr.alloc (.cells #[.int .i64 q.k, .int .i64 q.on, .int .i64 q.sl, .int .i64 q.li, .int .i64 q.se, .int .i64 q.nu, .string q.rp] 56)) wr.heap.size q) := hide (heap_alloc_new wr _)
      have HS := hide (HS.out.below (below_alloc wr (.cells #[.int .i64 q.k, .int .i64 q.on, .int .i64 q.sl, .int .i64 q.li, .int .i64 q.se, .int .i64 q.nu, .string q.rp] 56)))
      have HB := hide (HB.out.alloc HB.out.size (.cells #[.int .i64 q.k, .int .i64 q.on, .int .i64 q.sl, .int .i64 q.li, .int .i64 q.se, .int .i64 q.nu, .string q.rp] 56))

      by_cases hsl : q.sl = slot
      · skip
        by_cases hk2 : q.k = 2
        · skip
          have e2 : (q.k == 2) = true := by simpa using hk2
          clear hk2
          have es : (q.sl != slot) = false := by simpa using hsl
          have HSL := hide hsl
          clear hsl
          obtain ⟨X, hX⟩ : ∃ X, wr.heap.size = X := ⟨_, rfl⟩
          rw [hX] at HX
          go_wp2_with fail
          try rw [hX]
          clear hX
          generalize wr.alloc (.cells #[.int .i64 q.k, .int .i64 q.on, .int .i64 q.sl, .int .i64 q.li, .int .i64 q.se, .int .i64 q.nu, .string q.rp] 56) = W at *
          refine (topen_any HS.out.t q.sl q.li q.se).mono ?_
          rintro e V1 ⟨rfl, ht, ho⟩
          have HX := hide (HX.out.onT HS.out.t ho)
          have HB := hide (HB.out.trans (ho.below HS.out.t.gB HB.out.size))
          have HS := hide (HS.out.on1 ht (tOpen_ok HS.out.d _ _ _) ho)
          clear ht ho
          obtain ⟨r1, hr1⟩ : ∃ r, tOpen D q.sl q.li q.se = r := ⟨_, rfl⟩
          have HR1 := hide hr1
          rw [hr1] at HS ⊢
          clear hr1
          have hsl := HSL.out
          subst hsl
          clear HSL
          obtain ⟨x0, x1, x2, x3, x4, x5, x6⟩ := HX.out.cells
          have xlt := HX.out.lt
          go_wp2_with fail
          refine (topen_any HS.out.u q.sl q.li q.se).mono ?_
          rintro e V2 ⟨rfl, ht, ho⟩
          have HX := hide (HX.out.onT HS.out.u ho)
          have HB := hide (HB.out.trans (ho.below HS.out.u.gB HB.out.size))
          have HS := hide (HS.out.on2 ht (tOpen_ok HS.out.e _ _ _) ho)
          clear ht ho
          obtain ⟨r2, hr2⟩ : ∃ r, tOpen E q.sl q.li q.se = r := ⟨_, rfl⟩
          have HR2 := hide hr2
          rw [hr2] at HS ⊢
          clear hr2
          have HA : Hid (atD r1.D q.sl = atD r2.D q.sl) := hide (by rw [← HR1.out, ← HR2.out]; exact tOpen_same HA.out)
          clear HR1 HR2 x0 x1 x2 x3 x4 x5 x6 xlt
          obtain ⟨x0, x1, x2, x3, x4, x5, x6⟩ := HX.out.cells
          have xlt := HX.out.lt
          go_wp2_with fail
          refine (thello_any HS.out.t q.sl q.li).mono ?_
          rintro e U0 ⟨rfl, hb⟩
          have HX := hide (HX.out.below hb)
          have HB := hide (HB.out.trans (hb.mono HB.out.size))
          have HS := hide (HS.out.below hb)
          clear hb x0 x1 x2 x3 x4 x5 x6 xlt
          generalize hh : tHello r1.D q.sl q.li = h1
          have HH1 := hide hh
          clear hh
          obtain ⟨ha, hs⟩ := h1
          simp only
          obtain ⟨x0, x1, x2, x3, x4, x5, x6⟩ := HX.out.cells
          have xlt := HX.out.lt
          go_wp2_with fail
          refine (thello_any HS.out.u q.sl q.li).mono ?_
          rintro e U1 ⟨rfl, hb⟩
          have HX := hide (HX.out.below hb)
          have HB := hide (HB.out.trans (hb.mono HB.out.size))
          have HS := hide (HS.out.below hb)
          clear hb x0 x1 x2 x3 x4 x5 x6 xlt
          rw [tHello_at HA.out, HH1.out]
          clear HH1
          simp only
          obtain ⟨x0, x1, x2, x3, x4, x5, x6⟩ := HX.out.cells
          have xlt := HX.out.lt
          go_wp2_with fail
          refine (task_any HS.out.t HS.out.d q.sl q.li q.se q.nu).mono ?_
          rintro e U2 ⟨rfl, hb⟩
          have HX := hide (HX.out.below hb)
          have HB := hide (HB.out.trans (hb.mono HB.out.size))
          have HS := hide (HS.out.below hb)
          clear hb x0 x1 x2 x3 x4 x5 x6 xlt
          generalize hh : tAsk r1.D q.sl q.li q.se q.nu = h2
          have HH2 := hide hh
          clear hh
          obtain ⟨hc, hd⟩ := h2
          simp only
          obtain ⟨x0, x1, x2, x3, x4, x5, x6⟩ := HX.out.cells
          have xlt := HX.out.lt
          go_wp2_with fail
          refine (task_any HS.out.u HS.out.e q.sl q.li q.se q.nu).mono ?_
          rintro e U3 ⟨rfl, hb⟩
          have HX := hide (HX.out.below hb)
          have HB := hide (HB.out.trans (hb.mono HB.out.size))
          have HS := hide (HS.out.below hb)
          clear hb x0 x1 x2 x3 x4 x5 x6 xlt
          rw [tAsk_at HA.out, HH2.out]
          clear HH2
          simp only
          have n1 : (ha != ha) = false := by simp
          have n2 : (hs != hs) = false := by simp
          have n3 : (hc != hc) = false := by simp
          go_wp2_with fail
          go_roundw
          case rel => exact ⟨i + 1, r1.D, r2.D, by omega, by go_num, HS, HA, HB⟩
          case measure => simp only [intOf]; omega
        by_cases hk4 : q.k = 4
        · skip
          have e2 : (q.k == 2) = false := by simpa using hk2
          have e4 : (q.k == 4) = true := by simpa using hk4
          clear hk2 hk4
          have es : (q.sl != slot) = false := by simpa using hsl
          have HSL := hide hsl
          clear hsl
          obtain ⟨X, hX⟩ : ∃ X, wr.heap.size = X := ⟨_, rfl⟩
          rw [hX] at HX
          go_wp2_with fail
          try rw [hX]
          clear hX
          generalize wr.alloc (.cells #[.int .i64 q.k, .int .i64 q.on, .int .i64 q.sl, .int .i64 q.li, .int .i64 q.se, .int .i64 q.nu, .string q.rp] 56) = W at *
          refine (tans_any HS.out.t HS.out.d q.sl q.rp).mono ?_
          rintro e V1 ⟨rfl, ht, ho⟩
          have HX := hide (HX.out.onT HS.out.t ho)
          have HB := hide (HB.out.trans (ho.below HS.out.t.gB HB.out.size))
          have HS := hide (HS.out.on1 ht (tAnswer_ok HS.out.d _ _) ho)
          clear ht ho
          obtain ⟨r1, hr1⟩ : ∃ r, tAnswer D q.sl q.rp = r := ⟨_, rfl⟩
          have HR1 := hide hr1
          rw [hr1] at HS ⊢
          clear hr1
          have hsl := HSL.out
          subst hsl
          clear HSL
          obtain ⟨x0, x1, x2, x3, x4, x5, x6⟩ := HX.out.cells
          have xlt := HX.out.lt
          go_wp2_with fail
          refine (tans_any HS.out.u HS.out.e q.sl q.rp).mono ?_
          rintro e V2 ⟨rfl, ht, ho⟩
          have HX := hide (HX.out.onT HS.out.u ho)
          have HB := hide (HB.out.trans (ho.below HS.out.u.gB HB.out.size))
          have HS := hide (HS.out.on2 ht (tAnswer_ok HS.out.e _ _) ho)
          clear ht ho
          obtain ⟨r2, hr2⟩ : ∃ r, tAnswer E q.sl q.rp = r := ⟨_, rfl⟩
          have HR2 := hide hr2
          rw [hr2] at HS ⊢
          clear hr2
          have HA : Hid (atD r1.D q.sl = atD r2.D q.sl) := hide (by rw [← HR1.out, ← HR2.out]; exact tAnswer_same HA.out)
          clear HR1 HR2 x0 x1 x2 x3 x4 x5 x6 xlt
          obtain ⟨x0, x1, x2, x3, x4, x5, x6⟩ := HX.out.cells
          have xlt := HX.out.lt
          go_wp2_with fail
          refine (thello_any HS.out.t q.sl q.li).mono ?_
          rintro e U0 ⟨rfl, hb⟩
          have HX := hide (HX.out.below hb)
          have HB := hide (HB.out.trans (hb.mono HB.out.size))
          have HS := hide (HS.out.below hb)
          clear hb x0 x1 x2 x3 x4 x5 x6 xlt
          generalize hh : tHello r1.D q.sl q.li = h1
          have HH1 := hide hh
          clear hh
          obtain ⟨ha, hs⟩ := h1
          simp only
          obtain ⟨x0, x1, x2, x3, x4, x5, x6⟩ := HX.out.cells
          have xlt := HX.out.lt
          go_wp2_with fail
          refine (thello_any HS.out.u q.sl q.li).mono ?_
          rintro e U1 ⟨rfl, hb⟩
          have HX := hide (HX.out.below hb)
          have HB := hide (HB.out.trans (hb.mono HB.out.size))
          have HS := hide (HS.out.below hb)
          clear hb x0 x1 x2 x3 x4 x5 x6 xlt
          rw [tHello_at HA.out, HH1.out]
          clear HH1
          simp only
          obtain ⟨x0, x1, x2, x3, x4, x5, x6⟩ := HX.out.cells
          have xlt := HX.out.lt
          go_wp2_with fail
          refine (task_any HS.out.t HS.out.d q.sl q.li q.se q.nu).mono ?_
          rintro e U2 ⟨rfl, hb⟩
          have HX := hide (HX.out.below hb)
          have HB := hide (HB.out.trans (hb.mono HB.out.size))
          have HS := hide (HS.out.below hb)
          clear hb x0 x1 x2 x3 x4 x5 x6 xlt
          generalize hh : tAsk r1.D q.sl q.li q.se q.nu = h2
          have HH2 := hide hh
          clear hh
          obtain ⟨hc, hd⟩ := h2
          simp only
          obtain ⟨x0, x1, x2, x3, x4, x5, x6⟩ := HX.out.cells
          have xlt := HX.out.lt
          go_wp2_with fail
          refine (task_any HS.out.u HS.out.e q.sl q.li q.se q.nu).mono ?_
          rintro e U3 ⟨rfl, hb⟩
          have HX := hide (HX.out.below hb)
          have HB := hide (HB.out.trans (hb.mono HB.out.size))
          have HS := hide (HS.out.below hb)
          clear hb x0 x1 x2 x3 x4 x5 x6 xlt
          rw [tAsk_at HA.out, HH2.out]
          clear HH2
          simp only
          have n1 : (ha != ha) = false := by simp
          have n2 : (hs != hs) = false := by simp
          have n3 : (hc != hc) = false := by simp
          go_wp2_with fail
          go_roundw
          case rel => exact ⟨i + 1, r1.D, r2.D, by omega, by go_num, HS, HA, HB⟩
          case measure => simp only [intOf]; omega
        have e2 : (q.k == 2) = false := by simpa using hk2
        have e4 : (q.k == 4) = false := by simpa using hk4
        clear hk2 hk4
        have es : (q.sl != slot) = false := by simpa using hsl
        have HSL := hide hsl
        clear hsl
        obtain ⟨X, hX⟩ : ∃ X, wr.heap.size = X := ⟨_, rfl⟩
        rw [hX] at HX
        go_wp2_with fail
        try rw [hX]
        clear hX
        generalize wr.alloc (.cells #[.int .i64 q.k, .int .i64 q.on, .int .i64 q.sl, .int .i64 q.li, .int .i64 q.se, .int .i64 q.nu, .string q.rp] 56) = W at *
        have hsl := HSL.out
        subst hsl
        clear HSL
        obtain ⟨x0, x1, x2, x3, x4, x5, x6⟩ := HX.out.cells
        have xlt := HX.out.lt
        go_wp2_with fail
        refine (thello_any HS.out.t q.sl q.li).mono ?_
        rintro e U0 ⟨rfl, hb⟩
        have HX := hide (HX.out.below hb)
        have HB := hide (HB.out.trans (hb.mono HB.out.size))
        have HS := hide (HS.out.below hb)
        clear hb x0 x1 x2 x3 x4 x5 x6 xlt
        generalize hh : tHello D q.sl q.li = h1
        have HH1 := hide hh
        clear hh
        obtain ⟨ha, hs⟩ := h1
        simp only
        obtain ⟨x0, x1, x2, x3, x4, x5, x6⟩ := HX.out.cells
        have xlt := HX.out.lt
        go_wp2_with fail
        refine (thello_any HS.out.u q.sl q.li).mono ?_
        rintro e U1 ⟨rfl, hb⟩
        have HX := hide (HX.out.below hb)
        have HB := hide (HB.out.trans (hb.mono HB.out.size))
        have HS := hide (HS.out.below hb)
        clear hb x0 x1 x2 x3 x4 x5 x6 xlt
        rw [tHello_at HA.out, HH1.out]
        clear HH1
        simp only
        obtain ⟨x0, x1, x2, x3, x4, x5, x6⟩ := HX.out.cells
        have xlt := HX.out.lt
        go_wp2_with fail
        refine (task_any HS.out.t HS.out.d q.sl q.li q.se q.nu).mono ?_
        rintro e U2 ⟨rfl, hb⟩
        have HX := hide (HX.out.below hb)
        have HB := hide (HB.out.trans (hb.mono HB.out.size))
        have HS := hide (HS.out.below hb)
        clear hb x0 x1 x2 x3 x4 x5 x6 xlt
        generalize hh : tAsk D q.sl q.li q.se q.nu = h2
        have HH2 := hide hh
        clear hh
        obtain ⟨hc, hd⟩ := h2
        simp only
        obtain ⟨x0, x1, x2, x3, x4, x5, x6⟩ := HX.out.cells
        have xlt := HX.out.lt
        go_wp2_with fail
        refine (task_any HS.out.u HS.out.e q.sl q.li q.se q.nu).mono ?_
        rintro e U3 ⟨rfl, hb⟩
        have HX := hide (HX.out.below hb)
        have HB := hide (HB.out.trans (hb.mono HB.out.size))
        have HS := hide (HS.out.below hb)
        clear hb x0 x1 x2 x3 x4 x5 x6 xlt
        rw [tAsk_at HA.out, HH2.out]
        clear HH2
        simp only
        have n1 : (ha != ha) = false := by simp
        have n2 : (hs != hs) = false := by simp
        have n3 : (hc != hc) = false := by simp
        go_wp2_with fail
        go_roundw
        case rel => exact ⟨i + 1, D, E, by omega, by go_num, HS, HA, HB⟩
        case measure => simp only [intOf]; omega
      · skip
        by_cases hk2 : q.k = 2
        · skip
          have e2 : (q.k == 2) = true := by simpa using hk2
          clear hk2
          have es : (q.sl != slot) = true := by simpa using hsl
          have HSL := hide hsl
          clear hsl
          obtain ⟨X, hX⟩ : ∃ X, wr.heap.size = X := ⟨_, rfl⟩
          rw [hX] at HX
          go_wp2_with fail
          try rw [hX]
          clear hX
          generalize wr.alloc (.cells #[.int .i64 q.k, .int .i64 q.on, .int .i64 q.sl, .int .i64 q.li, .int .i64 q.se, .int .i64 q.nu, .string q.rp] 56) = W at *
          refine (topen_any HS.out.t q.sl q.li q.se).mono ?_
          rintro e V1 ⟨rfl, ht, ho⟩
          have HX := hide (HX.out.onT HS.out.t ho)
          have HB := hide (HB.out.trans (ho.below HS.out.t.gB HB.out.size))
          have HS := hide (HS.out.on1 ht (tOpen_ok HS.out.d _ _ _) ho)
          clear ht ho
          obtain ⟨r1, hr1⟩ : ∃ r, tOpen D q.sl q.li q.se = r := ⟨_, rfl⟩
          have HR1 := hide hr1
          rw [hr1] at HS ⊢
          clear hr1
          obtain ⟨x0, x1, x2, x3, x4, x5, x6⟩ := HX.out.cells
          have xlt := HX.out.lt
          have HA : Hid (atD r1.D slot = atD E slot) := hide (by rw [← HR1.out, tOpen_other (Ne.symm HSL.out)]; exact HA.out)
          go_wp2_with fail
          go_roundw
          case rel => exact ⟨i + 1, r1.D, E, by omega, by go_num, HS, HA, HB⟩
          case measure => simp only [intOf]; omega
        by_cases hk4 : q.k = 4
        · skip
          have e2 : (q.k == 2) = false := by simpa using hk2
          have e4 : (q.k == 4) = true := by simpa using hk4
          clear hk2 hk4
          have es : (q.sl != slot) = true := by simpa using hsl
          have HSL := hide hsl
          clear hsl
          obtain ⟨X, hX⟩ : ∃ X, wr.heap.size = X := ⟨_, rfl⟩
          rw [hX] at HX
          go_wp2_with fail
          try rw [hX]
          clear hX
          generalize wr.alloc (.cells #[.int .i64 q.k, .int .i64 q.on, .int .i64 q.sl, .int .i64 q.li, .int .i64 q.se, .int .i64 q.nu, .string q.rp] 56) = W at *
          refine (tans_any HS.out.t HS.out.d q.sl q.rp).mono ?_
          rintro e V1 ⟨rfl, ht, ho⟩
          have HX := hide (HX.out.onT HS.out.t ho)
          have HB := hide (HB.out.trans (ho.below HS.out.t.gB HB.out.size))
          have HS := hide (HS.out.on1 ht (tAnswer_ok HS.out.d _ _) ho)
          clear ht ho
          obtain ⟨r1, hr1⟩ : ∃ r, tAnswer D q.sl q.rp = r := ⟨_, rfl⟩
          have HR1 := hide hr1
          rw [hr1] at HS ⊢
          clear hr1
          obtain ⟨x0, x1, x2, x3, x4, x5, x6⟩ := HX.out.cells
          have xlt := HX.out.lt
          have HA : Hid (atD r1.D slot = atD E slot) := hide (by rw [← HR1.out, tAnswer_other (Ne.symm HSL.out)]; exact HA.out)
          go_wp2_with fail
          go_roundw
          case rel => exact ⟨i + 1, r1.D, E, by omega, by go_num, HS, HA, HB⟩
          case measure => simp only [intOf]; omega
        have e2 : (q.k == 2) = false := by simpa using hk2
        have e4 : (q.k == 4) = false := by simpa using hk4
        clear hk2 hk4
        have es : (q.sl != slot) = true := by simpa using hsl
        have HSL := hide hsl
        clear hsl
        obtain ⟨X, hX⟩ : ∃ X, wr.heap.size = X := ⟨_, rfl⟩
        rw [hX] at HX
        go_wp2_with fail
        try rw [hX]
        clear hX
        generalize wr.alloc (.cells #[.int .i64 q.k, .int .i64 q.on, .int .i64 q.sl, .int .i64 q.li, .int .i64 q.se, .int .i64 q.nu, .string q.rp] 56) = W at *
        obtain ⟨x0, x1, x2, x3, x4, x5, x6⟩ := HX.out.cells
        have xlt := HX.out.lt
        go_wp2_with fail
        go_roundw
        case rel => exact ⟨i + 1, D, E, by omega, by go_num, HS, HA, HB⟩
        case measure => simp only [intOf]; omega
    · have hii : ¬ (i : Int) < (Q.length : Int) := by omega
      clear HS HA
      go_wp2_with fail
      go_ret
      exact ⟨rfl, HB.out⟩
end Go.Proofs.Ytaikogbeaohmhaa
