import Derived.Test.YteckkaapibbpcaaChX
namespace Go.Proofs.Yteckkaapibbpcaa
open Go.RowKit

/-- what was put, and what is left of it -/
def Hist (L : List ByteArray) (s : Sn) : Prop := ∃ H, L = H ++ s.R ∧ H.length = s.go
theorem Hist.len {L : List ByteArray} {s : Sn} (h : Hist L s) : s.len = L.length := by
  obtain ⟨H, rfl, h2⟩ := h
  rw [List.length_append, h2]; rfl
theorem Hist.get {L : List ByteArray} {s : Sn} (h : Hist L s) {n : Nat} (hn : s.go ≤ n) : L[n]? = s.R[n - s.go]? := by
  obtain ⟨H, rfl, h2⟩ := h
  rw [List.getElem?_append_right (by omega), h2]
theorem Hist.tick {L : List ByteArray} {s : Sn} (h : Hist L s) : Hist L s.tick := h
theorem Sn.due_go (s : Sn) : s.due.go = s.go := by unfold Sn.due; split <;> rfl
theorem Sn.due_R (s : Sn) : s.due.R = s.R := by unfold Sn.due; split <;> rfl
theorem Sn.due_wd (s : Sn) : s.due.wd = s.wd := by unfold Sn.due; split <;> rfl
theorem Sn.due_rs (s : Sn) : s.due.rs = s.rs := by unfold Sn.due; split <;> rfl
theorem Hist.due {L : List ByteArray} {s : Sn} (h : Hist L s) : Hist L s.due := by
  obtain ⟨H, h1, h2⟩ := h
  exact ⟨H, by rw [Sn.due_R]; exact h1, by rw [Sn.due_go]; exact h2⟩
theorem Hist.add {L : List ByteArray} {s : Sn} (h : Hist L s) (t : ByteArray) : Hist (L ++ [t]) (s.add t) := by
  obtain ⟨H, rfl, h2⟩ := h
  exact ⟨H, by rw [List.append_assoc]; rfl, h2⟩
theorem Sn.ack_wd (s : Sn) (k : Int) : (s.ack k).wd = s.wd := by unfold Sn.ack; split <;> rfl
theorem Sn.ack_rs (s : Sn) (k : Int) : (s.ack k).rs = s.rs := by unfold Sn.ack; split <;> rfl
theorem Sn.ack_go (s : Sn) (k : Int) : (s.ack k).go = if s.ackB k then k.toNat else s.go := by unfold Sn.ack; split <;> rfl
theorem Sn.ack_yes {s : Sn} {k : Int} (h : s.ackB k = true) : (s.ack k).R = s.R.drop (k.toNat - s.go) := by unfold Sn.ack; rw [if_pos h]
theorem Hist.ack {L : List ByteArray} {s : Sn} (h : Hist L s) (hk : s.ok) (k : Int) : Hist L (s.ack k) := by
  cases hb : s.ackB k with
  | false => rw [show s.ack k = s by unfold Sn.ack; rw [hb]; rfl]; exact h
  | true =>
    obtain ⟨H, rfl, h2⟩ := h
    have h3 := Sn.ackB_iff.mp hb
    have h4 := hk.we2
    refine ⟨H ++ s.R.take (k.toNat - s.go), ?_, ?_⟩
    · rw [Sn.ack_yes hb, List.append_assoc, List.take_append_drop]
    · rw [Sn.ack_go, hb, List.length_append, List.length_take]
      simp only [if_true]
      omega
theorem own_str0 {w : World} {base g : Nat} (h : w.heap[g]? = some (.cells #[] 9 (0, 0))) (hb : base ≤ g) : w.ownsRow base 9 1 (.slice (some ⟨g, 0, none⟩) 0 0) ([] : List ByteArray).length (([] : List ByteArray).map Value.string) :=
  ⟨rfl, .inr ⟨g, 0, #[], rfl, hb, h, Nat.le_refl _, Nat.zero_le _, rfl, rfl⟩⟩
/-- all that stands at a round's head -/
structure Wi (w0 : World) (b : Nat) (a c : Nat) (s : Sn) (L : List ByteArray) (v : Value) (w : World) : Prop where
  cw : Cw w0 v.ownBlock b s w
  row : w.ownsRow w0.heap.size 9 1 v L.length (L.map Value.string)
  hi : Hist L s
  wd : s.wd = a
  rs : s.rs = c
theorem Wi.drewN {w0 w : World} {b a c : Nat} {s : Sn} {L : List ByteArray} {v : Value} (h : Wi w0 b a c s L v w) (n : Nat) : Wi w0 b a c s L v (w.drewN n) := ⟨h.cw.drewN n, own_keep h.row fun _ _ => rfl, h.hi, h.wd, h.rs⟩
theorem Wi.eqD {w0 w w' : World} {b a c : Nat} {s : Sn} {L : List ByteArray} {v : Value} {n : Nat} (h : Wi w0 b a c s L v w) (e : w' = w.drewN n) : Wi w0 b a c s L v w' := by rw [e]; exact h.drewN n
theorem Wi.post {w0 w w' : World} {b a c : Nat} {s s' : Sn} {L : List ByteArray} {v : Value} (h : Wi w0 b a c s L v w) (hp : CPost w0 v.ownBlock b s' w w') (hh : Hist L s') (h1 : s'.wd = s.wd) (h2 : s'.rs = s.rs) : Wi w0 b a c s' L v w' :=
  ⟨hp.1, own_keep h.row fun k hk => hp.2 k hk, hh, h1.trans h.wd, h2.trans h.rs⟩
theorem Wi.len32 {w0 w : World} {b a c : Nat} {s : Sn} {L : List ByteArray} {v : Value} (h : Wi w0 b a c s L v w) : L.length ≤ 32 := by rw [← h.hi.len]; exact h.cw.ok.l
theorem Sn.it_at {s : Sn} {L : List ByteArray} (h : Hist L s) (hk : s.ok) {k : Nat} (h1 : k < s.we - s.from_) : (s.it k).1 = s.from_ + k ∧ L[s.from_ + k]? = some (s.it k).2 := by
  have h2 := Sn.from_lo hk
  have h3 := Sn.we_hi s
  refine ⟨rfl, ?_⟩
  rw [h.get (by omega)]
  unfold Sn.it
  rw [show s.from_ + k - s.go = s.from_ - s.go + k by omega]
  simp only [List.getD_eq_getElem?_getD, List.getElem?_eq_getElem (show s.from_ - s.go + k < s.R.length by omega), Option.getD_some]
theorem str_cell {w : World} {base n g cap : Nat} {L : List ByteArray} (h : w.ownsRow base 9 1 (.slice (some ⟨g, 0, none⟩) L.length cap) L.length (L.map Value.string)) {t : ByteArray} (hn : L[n]? = some t) : w.cell? ⟨g, n, none⟩ = some (.string t) := by
  have e1 := h.cells (g := g) rfl n (.string t) (by rw [List.getElem?_map, hn]; rfl)
  rw [Addr.add_lit, Nat.zero_add] at e1
  exact e1
theorem it_cell {w : World} {base g cap : Nat} {D : List (Nat × ByteArray)} (h : w.ownsRow base 46 2 (.slice (some ⟨g, 0, none⟩) D.length cap) D.length (ics D)) {k : Nat} (hk : k < D.length) : w.cell? ⟨g, k * 2, none⟩ = some (.int .i64 ((D[k]).1 : Int)) ∧ w.cell? ⟨g, k * 2 + 1, none⟩ = some (.string (D[k]).2) := by
  obtain ⟨h1, h2⟩ := ics_get D k hk
  have e1 := h.cells (g := g) rfl _ _ h1
  have e2 := h.cells (g := g) rfl _ _ h2
  rw [Addr.add_lit, Nat.zero_add] at e1 e2
  exact ⟨e1, e2⟩
theorem Sn.its_facts {L : List ByteArray} {s : Sn} (h : Hist L s) (hk : s.ok) : s.its.length ≤ 32 ∧ ∀ k (hl : k < s.its.length), (s.its[k]).1 = s.from_ + k ∧ s.due.go ≤ s.from_ + k ∧ s.from_ + k < s.due.go + s.wd ∧ L[s.from_ + k]? = some (s.its[k]).2 ∧ s.from_ + k < s.due.said := by
  have h1 := Sn.from_lo hk
  have h2 := Sn.we_hi s
  have h3 : s.we ≤ s.go + s.wd := Nat.min_le_left _ _
  have h4 := hk.l
  rw [Sn.due_go]
  refine ⟨by rw [Sn.its_len]; omega, fun k hl => ?_⟩
  have hl' := hl
  rw [Sn.its_len] at hl'
  obtain ⟨h5, h6⟩ := Sn.it_at h hk hl'
  rw [Sn.its_get]
  refine ⟨h5, by omega, by omega, h6, ?_⟩
  unfold Sn.due
  rw [if_neg (by omega)]
  show s.from_ + k < s.we
  omega
set_option maxHeartbeats 16000000 in
set_option maxRecDepth 8000 in
theorem chunksWindow_walk {w : World} {x : Int} (hx : -9223372036854775808 ≤ x ∧ x ≤ 9223372036854775807) {y : Int} (hy : -9223372036854775808 ≤ y ∧ y ≤ 9223372036854775807) {ad : Option Addr} {ab ao cap : Nat} {Q : List Oc} (hQ : Sr Oc.cs 4 w ad ab ao Q) (hQl : Q.length ≤ 3518437208780) (hQb : ∀ i (h : i < Q.length), I6 (Q[i]).on ∧ I6 (Q[i]).n) :
    Calls Try.prog 4 #[.int .i64 x, .int .i64 y, .slice ad Q.length cap] w fun e w' => e = .returned (.bool true) ∧ Below w.heap.size w w' := by
  have HQ := hide hQ
  have HQB := hide hQb
  have HN := hide (cnew w hx hy)
  clear hQ hQb hx hy
  obtain ⟨iS, hiS, zS0, zS1, zS2⟩ := info_parts Try.infoS
  go_enter Try.func4, Try.ntmps4
  go_wp2_with fail
  refine HN.out.mono ?_
  rintro e w1 (⟨h, rfl, hw⟩ | ⟨h, rfl, hC1⟩)
  · subst hw
    clear HN
    go_wp2_with fail
    refine (awake_any _).mono ?_
    rintro e w2 ⟨rfl, hB2⟩
    go_wp2_with fail
    go_ret
    exact ⟨rfl, hB2⟩
  obtain ⟨h1, h2, h3, h4⟩ := h
  obtain ⟨a, rfl⟩ : ∃ a : Nat, x = (a : Int) := ⟨x.toNat, by omega⟩
  obtain ⟨c, rfl⟩ : ∃ c : Nat, y = (c : Int) := ⟨y.toNat, by omega⟩
  rw [Int.toNat_natCast, Int.toNat_natCast] at hC1
  obtain ⟨bb, hbb⟩ : ∃ bb, w.heap.size = bb := ⟨_, rfl⟩
  rw [show Value.pointer (some ⟨w.heap.size, 0, none⟩) = Value.pointer (some ⟨bb, 0, none⟩) by rw [hbb]]
  rw [hbb] at hC1
  have HC := hide hC1
  clear HN hbb hC1
  go_wp2_with fail
  refine (awake_any _).mono ?_
  rintro e w2 ⟨rfl, hB2⟩
  have HC := hide (HC.out.below hB2)
  clear hB2
  have a8 : a ≤ 8 := by omega
  have c16 : c ≤ 16 := by omega
  clear h1 h2 h3 h4
  have HW : Hid (Wi w bb a c (newS a c) [] (.slice (some ⟨w2.heap.size, 0, none⟩) 0 0) (w2.alloc (.cells #[] 9))) := hide (by
    have hg : w2.grownBy (w2.alloc (.cells #[] 9)) none := ⟨rfl, rfl, rfl, by rw [World.size_alloc]; omega, fun k hk _ => Below.heap_alloc w2 _ k hk⟩
    exact ⟨HC.out.row hg (fun p hp => by cases hp) (.inr (Nat.le_refl _)) (by rw [World.size_alloc]; exact Nat.lt_succ_self _), own_str0 (heap_alloc_new w2 _) HC.out.bel.size, ⟨[], rfl, rfl⟩, rfl, rfl⟩)
  go_wp2_with fail
  go_loopw [9, 10, 11, 12, 13, 14, 15] (fun v t _ _ _ _ _ wr => ∃ (i : Nat) (s : Sn) (L : List ByteArray), i ≤ Q.length ∧ t = .int .i64 (i : Int) ∧ Hid (Wi w bb a c s L v wr)) (fun _ t _ _ _ _ _ _ => Q.length - (intOf t).toNat)
  case atStart => exact ⟨0, newS a c, [], Nat.zero_le _, rfl, HW⟩
  case round =>
    clear HW HC
    obtain ⟨i, s, L, hi, rfl, HW⟩ := hrel
    by_cases hiq : i < Q.length
    · have hii : (i : Int) < (Q.length : Int) := by omega
      have hat := HQ.out.at_ (by omega)
      subst hat
      have HRd : Hid (∀ V, Below w.heap.size w V → V.cell? ⟨ab, ao + i * 4, none⟩ = some (.int .i64 (Q[i]).k) ∧ V.cell? ⟨ab, ao + i * 4 + 2, none⟩ = some (.int .i64 (Q[i]).n) ∧ V.cell? ⟨ab, ao + i * 4 + 3, none⟩ = some (.string (Q[i]).tx)) := hide fun V hV => by
        obtain ⟨q0, q1, q2, q3⟩ := (HQ.out.below (by decide) Oc.cs0 hV).four hiq
        exact ⟨q0, q2, q3⟩
      have hlt : ab < w.heap.size := HQ.out.lt (by omega) (by decide) Oc.cs0
      obtain ⟨q0, q2, q3⟩ := HRd.out _ HW.out.cw.bel
      have HBO := hide (HQB.out i hiq)
      generalize Q[i] = q at *
      obtain ⟨adp, capp, rfl⟩ := own_slice HW.out.row
      by_cases hk1 : q.k = 1
      · have e1 : (q.k == 1) = true := by simpa using hk1
        clear hk1
        go_wp2_with fail
        refine (cput HW.out.cw q.tx).mono ?_
        rintro e w5 ⟨rfl, hp⟩
        by_cases hE : s.putE q.tx = 0
        · rw [hE]
          rw [Sn.put_yes hE] at hp
          obtain ⟨k0, k2, k3⟩ := HRd.out _ hp.1.bel
          have HP := hide hp
          have HO := hide (own_keep (w' := w5) HW.out.row fun k hk => hp.2 k hk)
          have HOA : Hid ((w5.alloc (.cells #[.string q.tx] 9)).ownsRow w.heap.size 9 1 (.slice adp L.length capp) L.length (L.map Value.string)) := hide (own_below HO.out (below_alloc w5 _))
          have hsz := hp.1.bel.size
          have hl5 : ab < w5.heap.size := by omega
          have h32 := HW.out.len32
          have HE := hide hE
          clear hp q0 q2 q3 hE
          go_wp2_with (at_builtin; refine wpList_append_lies _ rfl _ _ 35 rfl w.heap.size 9 iS (.string ByteArray.empty) 1 16 Try.underlying35 hiS zS0 zS1 zS2 rfl (by decide) (.slice adp L.length capp) L.length (L.map Value.string) rfl HOA.out ⟨w5.heap.size, 0, none⟩ 1 1 [.string q.tx] rfl rfl (one_new _ _ _) (by intro u hu; simp at hu; subst hu; rfl) (by decide) (by unfold maxLen; omega) (by omega) (by rw [World.size_alloc]; omega) _ rfl ?_; intro g7 cap7 w7 hown7 hgrow7 hat7 hlt7; have HW7 : Hid (Wi w bb a c (s.add q.tx) (L ++ [q.tx]) (.slice (some ⟨g7, 0, none⟩) (L.length + 1) cap7) w7) := hide ⟨(HP.out.1.below (below_alloc w5 _)).row hgrow7 (fun p hp => (HO.out.lt p hp).1) (hat7.imp id (fun e => by rw [e]; exact Nat.le_refl _)) hlt7, (by rw [List.length_append, List.map_append]; exact hown7), HW.out.hi.add _, HW.out.wd, HW.out.rs⟩; clear hown7 hgrow7 hat7 hlt7)
          have HW := HW7
          clear HW7 HP HO HOA k0 k2 k3 HE
          generalize s.add q.tx = r at *
          have hLL : (L ++ [q.tx]).length = L.length + 1 := by simp
          rw [← hLL] at HW ⊢
          generalize L ++ [q.tx] = LL at *
          clear hLL
          have HK := hide HW.out.cw.ok
          have f1 : ¬ r.said < r.go := by have := HK.out.gs; omega
          have f2 : ¬ r.len < r.said := by have := HK.out.we2; unfold Sn.len; omega
          have f3 : r.len = (LL).length := HW.out.hi.len
          have f5 : ¬ c < r.ti := by have := HK.out.t; have := HW.out.rs; omega
          obtain ⟨r1, hr1⟩ : ∃ r1, r.go = r1 := ⟨_, rfl⟩
          obtain ⟨r2, hr2⟩ : ∃ r2, r.said = r2 := ⟨_, rfl⟩
          obtain ⟨r3, hr3⟩ : ∃ r3, r.len = r3 := ⟨_, rfl⟩
          obtain ⟨r4, hr4⟩ : ∃ r4, r.ti = r4 := ⟨_, rfl⟩
          rw [hr3] at f3
          have f4 : ((r3 : Int) != (((LL).length : Nat) : Int)) = false := by rw [f3]; simp
          clear f3
          rw [hr1, hr2] at f1
          rw [hr2, hr3] at f2
          rw [hr4] at f5
          have HR1 := hide hr1
          have HR2 := hide hr2
          have HR3 := hide hr3
          have HR4 := hide hr4
          clear hr1 hr2 hr3 hr4
          have f6 : decide ((r4 : Int) < 0) = false := by simp
          go_wp2_with fail
          refine (cacked HW.out.cw).mono ?_
          rintro e y1 ⟨rfl, rfl⟩
          rw [HR1.out]
          go_wp2_with fail
          refine (csaid HW.out.cw).mono ?_
          rintro e y2 ⟨rfl, rfl⟩
          rw [HR2.out]
          go_wp2_with fail
          refine (csaid HW.out.cw).mono ?_
          rintro e y3 ⟨rfl, rfl⟩
          rw [HR2.out]
          go_wp2_with fail
          refine (clen HW.out.cw).mono ?_
          rintro e y4 ⟨rfl, m4, hy4⟩
          have HW := hide (HW.out.eqD hy4)
          clear hy4
          rw [HR3.out]
          go_wp2_with fail
          refine (clen HW.out.cw).mono ?_
          rintro e y5 ⟨rfl, m5, hy5⟩
          have HW := hide (HW.out.eqD hy5)
          clear hy5
          rw [HR3.out]
          go_wp2_with fail
          refine (ctimer HW.out.cw).mono ?_
          rintro e y6 ⟨rfl, rfl⟩
          rw [HR4.out]
          go_wp2_with fail
          refine (ctimer HW.out.cw).mono ?_
          rintro e y7 ⟨rfl, rfl⟩
          rw [HR4.out]
          go_wp2_with fail
          go_roundw
          case rel => exact ⟨i + 1, r, LL, by omega, by go_num, HW⟩
          case measure => simp only [intOf]; omega
        · have hE2 : (s.putE q.tx == 0) = false := by simpa using hE
          rw [Sn.put_no hE] at hp
          have HW := hide (HW.out.post hp HW.out.hi rfl rfl)
          clear hp q0 q2 q3 hE
          have HK := hide HW.out.cw.ok
          have f1 : ¬ s.said < s.go := by have := HK.out.gs; omega
          have f2 : ¬ s.len < s.said := by have := HK.out.we2; unfold Sn.len; omega
          have f3 : s.len = (L).length := HW.out.hi.len
          have f5 : ¬ c < s.ti := by have := HK.out.t; have := HW.out.rs; omega
          obtain ⟨r1, hr1⟩ : ∃ r1, s.go = r1 := ⟨_, rfl⟩
          obtain ⟨r2, hr2⟩ : ∃ r2, s.said = r2 := ⟨_, rfl⟩
          obtain ⟨r3, hr3⟩ : ∃ r3, s.len = r3 := ⟨_, rfl⟩
          obtain ⟨r4, hr4⟩ : ∃ r4, s.ti = r4 := ⟨_, rfl⟩
          rw [hr3] at f3
          have f4 : ((r3 : Int) != (((L).length : Nat) : Int)) = false := by rw [f3]; simp
          clear f3
          rw [hr1, hr2] at f1
          rw [hr2, hr3] at f2
          rw [hr4] at f5
          have HR1 := hide hr1
          have HR2 := hide hr2
          have HR3 := hide hr3
          have HR4 := hide hr4
          clear hr1 hr2 hr3 hr4
          have f6 : decide ((r4 : Int) < 0) = false := by simp
          go_wp2_with fail
          refine (cacked HW.out.cw).mono ?_
          rintro e y1 ⟨rfl, rfl⟩
          rw [HR1.out]
          go_wp2_with fail
          refine (csaid HW.out.cw).mono ?_
          rintro e y2 ⟨rfl, rfl⟩
          rw [HR2.out]
          go_wp2_with fail
          refine (csaid HW.out.cw).mono ?_
          rintro e y3 ⟨rfl, rfl⟩
          rw [HR2.out]
          go_wp2_with fail
          refine (clen HW.out.cw).mono ?_
          rintro e y4 ⟨rfl, m4, hy4⟩
          have HW := hide (HW.out.eqD hy4)
          clear hy4
          rw [HR3.out]
          go_wp2_with fail
          refine (clen HW.out.cw).mono ?_
          rintro e y5 ⟨rfl, m5, hy5⟩
          have HW := hide (HW.out.eqD hy5)
          clear hy5
          rw [HR3.out]
          go_wp2_with fail
          refine (ctimer HW.out.cw).mono ?_
          rintro e y6 ⟨rfl, rfl⟩
          rw [HR4.out]
          go_wp2_with fail
          refine (ctimer HW.out.cw).mono ?_
          rintro e y7 ⟨rfl, rfl⟩
          rw [HR4.out]
          go_wp2_with fail
          go_roundw
          case rel => exact ⟨i + 1, s, L, by omega, by go_num, HW⟩
          case measure => simp only [intOf]; omega
      by_cases hk2 : q.k = 2
      · have e1 : (q.k == 1) = false := by simpa using hk1
        have e2 : (q.k == 2) = true := by simpa using hk2
        clear hk1 hk2
        go_wp2_with fail
        refine (ctick HW.out.cw).mono ?_
        rintro e w5 ⟨rfl, hp, _⟩
        have HW := hide (HW.out.post hp HW.out.hi.tick rfl rfl)
        clear hp q0 q2 q3
        generalize s.tick = r at *
        have HK := hide HW.out.cw.ok
        have f1 : ¬ r.said < r.go := by have := HK.out.gs; omega
        have f2 : ¬ r.len < r.said := by have := HK.out.we2; unfold Sn.len; omega
        have f3 : r.len = (L).length := HW.out.hi.len
        have f5 : ¬ c < r.ti := by have := HK.out.t; have := HW.out.rs; omega
        obtain ⟨r1, hr1⟩ : ∃ r1, r.go = r1 := ⟨_, rfl⟩
        obtain ⟨r2, hr2⟩ : ∃ r2, r.said = r2 := ⟨_, rfl⟩
        obtain ⟨r3, hr3⟩ : ∃ r3, r.len = r3 := ⟨_, rfl⟩
        obtain ⟨r4, hr4⟩ : ∃ r4, r.ti = r4 := ⟨_, rfl⟩
        rw [hr3] at f3
        have f4 : ((r3 : Int) != (((L).length : Nat) : Int)) = false := by rw [f3]; simp
        clear f3
        rw [hr1, hr2] at f1
        rw [hr2, hr3] at f2
        rw [hr4] at f5
        have HR1 := hide hr1
        have HR2 := hide hr2
        have HR3 := hide hr3
        have HR4 := hide hr4
        clear hr1 hr2 hr3 hr4
        have f6 : decide ((r4 : Int) < 0) = false := by simp
        go_wp2_with fail
        refine (cacked HW.out.cw).mono ?_
        rintro e y1 ⟨rfl, rfl⟩
        rw [HR1.out]
        go_wp2_with fail
        refine (csaid HW.out.cw).mono ?_
        rintro e y2 ⟨rfl, rfl⟩
        rw [HR2.out]
        go_wp2_with fail
        refine (csaid HW.out.cw).mono ?_
        rintro e y3 ⟨rfl, rfl⟩
        rw [HR2.out]
        go_wp2_with fail
        refine (clen HW.out.cw).mono ?_
        rintro e y4 ⟨rfl, m4, hy4⟩
        have HW := hide (HW.out.eqD hy4)
        clear hy4
        rw [HR3.out]
        go_wp2_with fail
        refine (clen HW.out.cw).mono ?_
        rintro e y5 ⟨rfl, m5, hy5⟩
        have HW := hide (HW.out.eqD hy5)
        clear hy5
        rw [HR3.out]
        go_wp2_with fail
        refine (ctimer HW.out.cw).mono ?_
        rintro e y6 ⟨rfl, rfl⟩
        rw [HR4.out]
        go_wp2_with fail
        refine (ctimer HW.out.cw).mono ?_
        rintro e y7 ⟨rfl, rfl⟩
        rw [HR4.out]
        go_wp2_with fail
        go_roundw
        case rel => exact ⟨i + 1, r, L, by omega, by go_num, HW⟩
        case measure => simp only [intOf]; omega
      by_cases hk3 : q.k = 3
      · have e1 : (q.k == 1) = false := by simpa using hk1
        have e2 : (q.k == 2) = false := by simpa using hk2
        have e3 : (q.k == 3) = true := by simpa using hk3
        clear hk1 hk2 hk3
        go_wp2_with fail
        obtain ⟨w4, hw4⟩ : ∃ w4, w4 = wr := ⟨_, rfl⟩
        refine (cdue HW.out.cw).mono ?_
        rintro e w5 ⟨u, rfl, hown, hp, _⟩
        rw [← hw4] at hown
        clear hw4
        have HD := hide (Sn.its_facts HW.out.hi HW.out.cw.ok)
        rw [HW.out.wd] at HD
        have HW := hide (HW.out.post hp HW.out.hi.due (Sn.due_wd s) (Sn.due_rs s))
        obtain ⟨adu, capu, rfl⟩ := own_slice hown
        have HO := hide hown
        have hit32 := HD.out.1
        clear hp hown q0 q2 q3
        generalize s.due = r at *
        generalize s.its = D at *
        generalize s.from_ = fr at *
        go_wp2_with fail
        go_loopw [12, 13] (fun t _ wx => ∃ k m : Nat, t = .int .i64 (k : Int) ∧ k ≤ D.length ∧ Hid (wx = w5.drewN m)) (fun t _ _ => D.length - (intOf t).toNat)
        case atStart => exact ⟨0, 0, rfl, Nat.zero_le _, rfl⟩
        case round =>
          obtain ⟨k, m, rfl, hkD, HX⟩ := hrel
          have HWr := hide (HW.out.eqD HX.out)
          have HOr : Hid (wr.ownsRow w4.heap.size 46 2 (.slice adu D.length capu) D.length (ics D)) := hide (by rw [HX.out]; exact own_keep HO.out fun _ _ => rfl)
          by_cases hkl : k < D.length
          · have hkI : (k : Int) < (D.length : Int) := by omega
            obtain ⟨g, cg, cur, hv, _, _, _, _, _⟩ := own_form HOr.out (by omega)
            injection hv with hv1 hv2 hv3
            subst hv1; subst hv3
            clear hv2
            obtain ⟨p1, p2, p3, p4, p5⟩ := HD.out.2 k hkl
            have hLp : fr + k < L.length := (List.getElem?_eq_some_iff.mp p4).1
            obtain ⟨pg, pc, cur2, hv, _, _, _, _, _⟩ := own_form HWr.out.row (by omega)
            injection hv with hv1 hv2 hv3
            subst hv1; subst hv3
            clear hv2
            have y0 := str_cell HWr.out.row p4
            obtain ⟨x0, x1⟩ := it_cell HOr.out hkl
            rw [p1] at x0
            have HA : Hid (∀ n, Calls Try.prog 16 #[.pointer (some ⟨bb, 0, none⟩)] (wr.drewN n) fun e w' => e = .returned (.int .i64 (r.go : Int)) ∧ w' = wr.drewN n) := hide fun n => cacked (HWr.out.cw.drewN n)
            have HS : Hid (∀ n, Calls Try.prog 17 #[.pointer (some ⟨bb, 0, none⟩)] (wr.drewN n) fun e w' => e = .returned (.int .i64 (r.said : Int)) ∧ w' = wr.drewN n) := hide fun n => csaid (HWr.out.cw.drewN n)
            have hg32 : r.go ≤ 32 := by have := HWr.out.cw.ok.l; omega
            have h32 := HWr.out.len32
            generalize (D[k]).2 = tx at *
            cases k with
            | zero =>
              simp only [Nat.add_zero] at p2 p3 p4 p5 y0 x0 hLp
              have f1 : ¬ fr < r.go := by omega
              have f2 : decide ((r.go : Int) + (a : Int) ≤ (fr : Int)) = false := decide_eq_false (by omega)
              have f3 : ¬ L.length ≤ fr := by omega
              have f4 : ¬ r.said ≤ fr := by omega
              clear p1 p2 p3 p4 p5
              go_wp2_with fail
              go_quiet (first | (go_at_call 16; exact Calls.quiet_of_same (HA.out _)) | (go_at_call 17; exact Calls.quiet_of_same (HS.out _)))
              go_wp2_with fail
              go_roundw
              case rel => exact ⟨1, _, by go_num, by omega, hide (by rw [HX.out, World.drewN_drewN])⟩
              case measure => simp only [intOf]; omega
            | succ j =>
              obtain ⟨x2, -⟩ := it_cell HOr.out (k := j) (by omega)
              obtain ⟨p6, -⟩ := HD.out.2 j (by omega)
              rw [p6] at x2
              obtain ⟨nn, hnn⟩ : ∃ nn, fr + (j + 1) = nn := ⟨_, rfl⟩
              rw [hnn] at p2 p3 p4 p5 y0 x0 hLp
              have f1 : ¬ nn < r.go := by omega
              have f2 : decide ((r.go : Int) + (a : Int) ≤ (nn : Int)) = false := decide_eq_false (by omega)
              have f3 : ¬ L.length ≤ nn := by omega
              have f4 : ¬ r.said ≤ nn := by omega
              have f5 : decide ((nn : Int) ≤ (fr : Int) + (j : Int)) = false := decide_eq_false (by omega)
              have f6 : ¬ nn ≤ fr + j := by omega
              have hj32 : j ≤ 32 := by omega
              clear p1 p2 p3 p4 p5 p6 hnn
              go_wp2_with fail
              go_quiet (first | (go_at_call 16; exact Calls.quiet_of_same (HA.out _)) | (go_at_call 17; exact Calls.quiet_of_same (HS.out _)))
              go_wp2_with fail
              go_roundw
              case rel => exact ⟨j + 2, _, by go_num, by omega, hide (by rw [HX.out, World.drewN_drewN])⟩
              case measure => simp only [intOf]; omega
          · have hkI : ¬ (k : Int) < (D.length : Int) := by omega
            have HW := HWr
            clear HWr HOr HX
            have HK := hide HW.out.cw.ok
            have f1 : ¬ r.said < r.go := by have := HK.out.gs; omega
            have f2 : ¬ r.len < r.said := by have := HK.out.we2; unfold Sn.len; omega
            have f3 : r.len = (L).length := HW.out.hi.len
            have f5 : ¬ c < r.ti := by have := HK.out.t; have := HW.out.rs; omega
            obtain ⟨r1, hr1⟩ : ∃ r1, r.go = r1 := ⟨_, rfl⟩
            obtain ⟨r2, hr2⟩ : ∃ r2, r.said = r2 := ⟨_, rfl⟩
            obtain ⟨r3, hr3⟩ : ∃ r3, r.len = r3 := ⟨_, rfl⟩
            obtain ⟨r4, hr4⟩ : ∃ r4, r.ti = r4 := ⟨_, rfl⟩
            rw [hr3] at f3
            have f4 : ((r3 : Int) != (((L).length : Nat) : Int)) = false := by rw [f3]; simp
            clear f3
            rw [hr1, hr2] at f1
            rw [hr2, hr3] at f2
            rw [hr4] at f5
            have HR1 := hide hr1
            have HR2 := hide hr2
            have HR3 := hide hr3
            have HR4 := hide hr4
            clear hr1 hr2 hr3 hr4
            have f6 : decide ((r4 : Int) < 0) = false := by simp
            go_wp2_with fail
            refine (cacked HW.out.cw).mono ?_
            rintro e y1 ⟨rfl, rfl⟩
            rw [HR1.out]
            go_wp2_with fail
            refine (csaid HW.out.cw).mono ?_
            rintro e y2 ⟨rfl, rfl⟩
            rw [HR2.out]
            go_wp2_with fail
            refine (csaid HW.out.cw).mono ?_
            rintro e y3 ⟨rfl, rfl⟩
            rw [HR2.out]
            go_wp2_with fail
            refine (clen HW.out.cw).mono ?_
            rintro e y4 ⟨rfl, m4, hy4⟩
            have HW := hide (HW.out.eqD hy4)
            clear hy4
            rw [HR3.out]
            go_wp2_with fail
            refine (clen HW.out.cw).mono ?_
            rintro e y5 ⟨rfl, m5, hy5⟩
            have HW := hide (HW.out.eqD hy5)
            clear hy5
            rw [HR3.out]
            go_wp2_with fail
            refine (ctimer HW.out.cw).mono ?_
            rintro e y6 ⟨rfl, rfl⟩
            rw [HR4.out]
            go_wp2_with fail
            refine (ctimer HW.out.cw).mono ?_
            rintro e y7 ⟨rfl, rfl⟩
            rw [HR4.out]
            go_wp2_with fail
            go_roundw
            case rel => exact ⟨i + 1, r, L, by omega, by go_num, HW⟩
            case measure => simp only [intOf]; omega
      have e1 : (q.k == 1) = false := by simpa using hk1
      have e2 : (q.k == 2) = false := by simpa using hk2
      have e3 : (q.k == 3) = false := by simpa using hk3
      clear hk1 hk2 hk3
      go_wp2_with fail
      refine (cacked HW.out.cw).mono ?_
      rintro e w4 ⟨rfl, rfl⟩
      go_wp2_with fail
      refine (cack HW.out.cw q.n HBO.out.2).mono ?_
      rintro e w5 ⟨rfl, hp, _⟩
      have HG := hide (Sn.ack_go s q.n)
      have HAk := hide (Sn.ackB_iff (s := s) (k := q.n))
      have HW := hide (HW.out.post hp (HW.out.hi.ack HW.out.cw.ok q.n) (Sn.ack_wd s q.n) (Sn.ack_rs s q.n))
      obtain ⟨k0, k2, k3⟩ := HRd.out _ hp.1.bel
      clear hp q0 q2 q3
      have HA : Hid (∀ n, Calls Try.prog 16 #[.pointer (some ⟨bb, 0, none⟩)] (w5.drewN n) fun e w' => e = .returned (.int .i64 ((s.ack q.n).go : Int)) ∧ w' = w5.drewN n) := hide fun n => cacked (HW.out.cw.drewN n)
      have hl5 : ab < w5.heap.size := Nat.lt_of_lt_of_le hlt HW.out.cw.bel.size
      generalize s.ack q.n = r at *
      cases hb : s.ackB q.n with
      | false =>
        have hg : r.go = s.go := by rw [HG.out, hb]; rfl
        rw [hg] at HA
        have f1 : ¬ s.go < s.go := by omega
        clear hb hg
        go_wp2_with fail
        go_quiet ((go_at_call 16; exact Calls.quiet_of_same (HA.out _)))
        go_wp2_with fail
        have HW := hide (HW.out.drewN nq)
        generalize w5.drewN nq = wm at *
        have HK := hide HW.out.cw.ok
        have f1 : ¬ r.said < r.go := by have := HK.out.gs; omega
        have f2 : ¬ r.len < r.said := by have := HK.out.we2; unfold Sn.len; omega
        have f3 : r.len = (L).length := HW.out.hi.len
        have f5 : ¬ c < r.ti := by have := HK.out.t; have := HW.out.rs; omega
        obtain ⟨r1, hr1⟩ : ∃ r1, r.go = r1 := ⟨_, rfl⟩
        obtain ⟨r2, hr2⟩ : ∃ r2, r.said = r2 := ⟨_, rfl⟩
        obtain ⟨r3, hr3⟩ : ∃ r3, r.len = r3 := ⟨_, rfl⟩
        obtain ⟨r4, hr4⟩ : ∃ r4, r.ti = r4 := ⟨_, rfl⟩
        rw [hr3] at f3
        have f4 : ((r3 : Int) != (((L).length : Nat) : Int)) = false := by rw [f3]; simp
        clear f3
        rw [hr1, hr2] at f1
        rw [hr2, hr3] at f2
        rw [hr4] at f5
        have HR1 := hide hr1
        have HR2 := hide hr2
        have HR3 := hide hr3
        have HR4 := hide hr4
        clear hr1 hr2 hr3 hr4
        have f6 : decide ((r4 : Int) < 0) = false := by simp
        go_wp2_with fail
        refine (cacked HW.out.cw).mono ?_
        rintro e y1 ⟨rfl, rfl⟩
        rw [HR1.out]
        go_wp2_with fail
        refine (csaid HW.out.cw).mono ?_
        rintro e y2 ⟨rfl, rfl⟩
        rw [HR2.out]
        go_wp2_with fail
        refine (csaid HW.out.cw).mono ?_
        rintro e y3 ⟨rfl, rfl⟩
        rw [HR2.out]
        go_wp2_with fail
        refine (clen HW.out.cw).mono ?_
        rintro e y4 ⟨rfl, m4, hy4⟩
        have HW := hide (HW.out.eqD hy4)
        clear hy4
        rw [HR3.out]
        go_wp2_with fail
        refine (clen HW.out.cw).mono ?_
        rintro e y5 ⟨rfl, m5, hy5⟩
        have HW := hide (HW.out.eqD hy5)
        clear hy5
        rw [HR3.out]
        go_wp2_with fail
        refine (ctimer HW.out.cw).mono ?_
        rintro e y6 ⟨rfl, rfl⟩
        rw [HR4.out]
        go_wp2_with fail
        refine (ctimer HW.out.cw).mono ?_
        rintro e y7 ⟨rfl, rfl⟩
        rw [HR4.out]
        go_wp2_with fail
        go_roundw
        case rel => exact ⟨i + 1, r, L, by omega, by go_num, HW⟩
        case measure => simp only [intOf]; omega
      | true =>
        have h3 := HAk.out.mp hb
        have hg : r.go = q.n.toNat := by rw [HG.out, hb]; rfl
        obtain ⟨z, hz⟩ : ∃ z : Nat, q.n = (z : Int) := ⟨q.n.toNat, by omega⟩
        have hg2 : r.go = z := by rw [hg, hz]; rfl
        rw [hg2] at HA
        rw [hz] at k2
        have f1 : s.go < z := by omega
        clear hb hg hg2 h3 hz
        go_wp2_with fail
        go_quiet ((go_at_call 16; exact Calls.quiet_of_same (HA.out _)))
        go_wp2_with fail
        have HW := hide (HW.out.drewN nq)
        generalize w5.drewN nq = wm at *
        have HK := hide HW.out.cw.ok
        have f1 : ¬ r.said < r.go := by have := HK.out.gs; omega
        have f2 : ¬ r.len < r.said := by have := HK.out.we2; unfold Sn.len; omega
        have f3 : r.len = (L).length := HW.out.hi.len
        have f5 : ¬ c < r.ti := by have := HK.out.t; have := HW.out.rs; omega
        obtain ⟨r1, hr1⟩ : ∃ r1, r.go = r1 := ⟨_, rfl⟩
        obtain ⟨r2, hr2⟩ : ∃ r2, r.said = r2 := ⟨_, rfl⟩
        obtain ⟨r3, hr3⟩ : ∃ r3, r.len = r3 := ⟨_, rfl⟩
        obtain ⟨r4, hr4⟩ : ∃ r4, r.ti = r4 := ⟨_, rfl⟩
        rw [hr3] at f3
        have f4 : ((r3 : Int) != (((L).length : Nat) : Int)) = false := by rw [f3]; simp
        clear f3
        rw [hr1, hr2] at f1
        rw [hr2, hr3] at f2
        rw [hr4] at f5
        have HR1 := hide hr1
        have HR2 := hide hr2
        have HR3 := hide hr3
        have HR4 := hide hr4
        clear hr1 hr2 hr3 hr4
        have f6 : decide ((r4 : Int) < 0) = false := by simp
        go_wp2_with fail
        refine (cacked HW.out.cw).mono ?_
        rintro e y1 ⟨rfl, rfl⟩
        rw [HR1.out]
        go_wp2_with fail
        refine (csaid HW.out.cw).mono ?_
        rintro e y2 ⟨rfl, rfl⟩
        rw [HR2.out]
        go_wp2_with fail
        refine (csaid HW.out.cw).mono ?_
        rintro e y3 ⟨rfl, rfl⟩
        rw [HR2.out]
        go_wp2_with fail
        refine (clen HW.out.cw).mono ?_
        rintro e y4 ⟨rfl, m4, hy4⟩
        have HW := hide (HW.out.eqD hy4)
        clear hy4
        rw [HR3.out]
        go_wp2_with fail
        refine (clen HW.out.cw).mono ?_
        rintro e y5 ⟨rfl, m5, hy5⟩
        have HW := hide (HW.out.eqD hy5)
        clear hy5
        rw [HR3.out]
        go_wp2_with fail
        refine (ctimer HW.out.cw).mono ?_
        rintro e y6 ⟨rfl, rfl⟩
        rw [HR4.out]
        go_wp2_with fail
        refine (ctimer HW.out.cw).mono ?_
        rintro e y7 ⟨rfl, rfl⟩
        rw [HR4.out]
        go_wp2_with fail
        go_roundw
        case rel => exact ⟨i + 1, r, L, by omega, by go_num, HW⟩
        case measure => simp only [intOf]; omega
    · have hii : ¬ (i : Int) < (Q.length : Int) := by omega
      go_wp2_with fail
      go_ret
      exact ⟨rfl, HW.out.cw.bel⟩
end Go.Proofs.Yteckkaapibbpcaa
