import Derived.Test.YteckkaapibbpcaaChE
namespace Go.Proofs.Yteckkaapibbpcaa
open Go.RowKit

/-- a sender that the law made; block P is not one that it lies in -/
structure Cw (w0 : World) (P : Option Nat) (b : Nat) (s : Sn) (w : World) : Prop where
  ok : s.ok
  low : w0.heap.size ≤ b
  bel : Below w0.heap.size w0 w
  sb : ∃ ad cap X o, Sb w b s ad cap X o ∧ (0 < cap → w0.heap.size ≤ X ∧ some X ≠ P)
  pl : ∀ p, P = some p → p < w.heap.size ∧ p ≠ b
theorem Cw.lt {w0 w : World} {P : Option Nat} {b : Nat} {s : Sn} (h : Cw w0 P b s w) : b < w.heap.size := by obtain ⟨_, _, _, _, hs, _⟩ := h.sb; exact hs.lt
theorem Cw.drewN {w0 w : World} {P : Option Nat} {b : Nat} {s : Sn} (h : Cw w0 P b s w) (n : Nat) : Cw w0 P b s (w.drewN n) := by
  obtain ⟨ad, cap, X, o, hs, hx⟩ := h.sb
  exact ⟨h.ok, h.low, below_drewN h.bel n, ⟨ad, cap, X, o, hs.drewN n, hx⟩, h.pl⟩
theorem Cw.below {w0 w : World} {P : Option Nat} {b : Nat} {s : Sn} {w' : World} (h : Cw w0 P b s w) (hb : Below w.heap.size w w') : Cw w0 P b s w' := by
  obtain ⟨ad, cap, X, o, hs, hx⟩ := h.sb
  exact ⟨h.ok, h.low, h.bel.trans (hb.mono h.bel.size), ⟨ad, cap, X, o, hs.below hb, hx⟩, fun p hp => ⟨Nat.lt_of_lt_of_le (h.pl p hp).1 hb.size, (h.pl p hp).2⟩⟩
theorem Cw.on {w0 w : World} {P : Option Nat} {b : Nat} {s : Sn} {w' : World} {s' : Sn} (h : Cw w0 P b s w) (hk : s'.ok) {ad : Option Addr} {cap X o : Nat} (hs : Sb w' b s' ad cap X o) (hx : 0 < cap → w0.heap.size ≤ X ∧ some X ≠ P) (ho : On b w w') : Cw w0 P b s' w' :=
  ⟨hk, h.low, h.bel.trans (ho.below h.low h.bel.size), ⟨ad, cap, X, o, hs, hx⟩, fun p hp => ⟨Nat.lt_of_lt_of_le (h.pl p hp).1 ho.size, (h.pl p hp).2⟩⟩
/-- a row beside it grows -/
theorem Cw.row {w0 w : World} {P : Option Nat} {b : Nat} {s : Sn} {w' : World} {g : Nat} (h : Cw w0 P b s w) (hg : w.grownBy w' P) (hP : ∀ p, P = some p → w0.heap.size ≤ p) (hat : P = some g ∨ w.heap.size ≤ g) (hlt : g < w'.heap.size) : Cw w0 (some g) b s w' := by
  obtain ⟨ad, cap, X, o, hs, hx⟩ := h.sb
  have hbP : some b ≠ P := fun e => (h.pl b e.symm).2 rfl
  refine ⟨h.ok, h.low, ⟨hg.os.trans h.bel.os, hg.tape.trans h.bel.tape, hg.output.trans h.bel.output, Nat.le_trans h.bel.size hg.size, fun k hk => (hg.block k (Nat.lt_of_lt_of_le hk h.bel.size) (fun e => by have := hP k e.symm; omega)).trans (h.bel.block k hk)⟩, ⟨ad, cap, X, o, ⟨(hg.block b hs.lt hbP).trans hs.cb, hs.rs.keep fun h0 => hg.block X (hs.rs.lt h0) (hx h0).2⟩, fun h0 => ⟨(hx h0).1, fun e => ?_⟩⟩, fun p hp => ?_⟩
  · rcases hat with h1 | h1
    · exact (hx h0).2 (e.trans h1.symm)
    · have h2 := hs.rs.lt h0
      injection e with e
      omega
  · injection hp with hp
    subst hp
    refine ⟨hlt, fun e => ?_⟩
    subst e
    rcases hat with h1 | h1
    · exact hbP h1.symm
    · have := hs.lt; omega
/-- none is beside it -/
theorem Cw.none_ {w0 w : World} {P : Option Nat} {b : Nat} {s : Sn} (h : Cw w0 P b s w) : Cw w0 none b s w := by
  obtain ⟨ad, cap, X, o, hs, hx⟩ := h.sb
  exact ⟨h.ok, h.low, h.bel, ⟨ad, cap, X, o, hs, fun h0 => ⟨(hx h0).1, by simp⟩⟩, fun p hp => by cases hp⟩
def CPost (w0 : World) (P : Option Nat) (b : Nat) (s : Sn) (w : World) (w' : World) : Prop := Cw w0 P b s w' ∧ ∀ p, P = some p → w'.heap[p]? = w.heap[p]?
theorem Sn.put_no {s : Sn} {t : ByteArray} (h : s.putE t ≠ 0) : s.put t = s := if_neg h
theorem Sn.put_yes {s : Sn} {t : ByteArray} (h : s.putE t = 0) : s.put t = s.add t := if_pos h
theorem cput {w0 w : World} {P : Option Nat} {b : Nat} {s : Sn} (h : Cw w0 P b s w) (t : ByteArray) :
    Calls Try.prog 13 #[.pointer (some ⟨b, 0, none⟩), .string t] w fun e w' => e = .returned (.int .i64 (s.putE t)) ∧ CPost w0 P b (s.put t) w w' := by
  obtain ⟨ad, cap, X, o, hs, hx⟩ := h.sb
  refine (sput_any h.ok hs t).mono fun e w' hp => ⟨hp.1, ?_⟩
  rcases hp.2 with ⟨hn, m, rfl⟩ | ⟨hn, ad', cap', X', o', hs', hF⟩
  · rw [Sn.put_no hn]
    exact ⟨h.drewN m, fun p _ => rfl⟩
  · have hk := Sn.put_ok h.ok t
    rw [Sn.put_yes hn] at hk ⊢
    rcases hF with ⟨h1, rfl, rfl, rfl, rfl, hP⟩ | ⟨h1, hO⟩
    · have hX := hx (by omega)
      refine ⟨⟨hk, h.low, h.bel.trans (hP.below h.low hX.1 h.bel.size), ⟨_, _, _, _, hs', hx⟩, fun p hp => ⟨Nat.lt_of_lt_of_le (h.pl p hp).1 hP.size, (h.pl p hp).2⟩⟩, fun p hp => hP.block p (h.pl p hp).1 (h.pl p hp).2 (fun e => hX.2 (by rw [← e]; exact hp.symm))⟩
    · refine ⟨h.on hk hs' (fun _ => ⟨Nat.le_trans h.bel.size h1, fun e => ?_⟩) hO, fun p hp => hO.block p (h.pl p hp).1 (h.pl p hp).2⟩
      have := (h.pl X' e.symm).1
      omega
theorem ctick {w0 w : World} {P : Option Nat} {b : Nat} {s : Sn} (h : Cw w0 P b s w) :
    Calls Try.prog 14 #[.pointer (some ⟨b, 0, none⟩)] w fun e w' => e = .returned (.tuple #[]) ∧ CPost w0 P b s.tick w w' ∧ On b w w' := by
  obtain ⟨ad, cap, X, o, hs, hx⟩ := h.sb
  refine (tick_any h.ok hs).mono fun e w' hp => ⟨hp.1, ⟨h.on (Sn.tick_ok h.ok) hp.2.1 hx hp.2.2, fun p hp' => hp.2.2.block p (h.pl p hp').1 (h.pl p hp').2⟩, hp.2.2⟩
theorem cack {w0 w : World} {P : Option Nat} {b : Nat} {s : Sn} (h : Cw w0 P b s w) (k : Int) (hk6 : -9223372036854775808 ≤ k ∧ k ≤ 9223372036854775807) :
    Calls Try.prog 18 #[.pointer (some ⟨b, 0, none⟩), .int .i64 k] w fun e w' => e = .returned (.bool (s.ackB k)) ∧ CPost w0 P b (s.ack k) w w' ∧ On b w w' := by
  obtain ⟨ad, cap, X, o, hs, hx⟩ := h.sb
  refine (ack_any h.ok hs k hk6).mono fun e w' hp => ⟨hp.1, ⟨?_, fun p hp' => hp.2.2.block p (h.pl p hp').1 (h.pl p hp').2⟩, hp.2.2⟩
  rcases hp.2.1 with ⟨hn, rfl⟩ | ⟨hn, ad', hs'⟩
  · rw [show s.ack k = s by unfold Sn.ack; rw [hn]; rfl]
    exact h
  · refine h.on (Sn.ack_ok h.ok k) hs' (fun h0 => hx (by have := hs.rs.le; omega)) hp.2.2
theorem cdue {w0 w : World} {P : Option Nat} {b : Nat} {s : Sn} (h : Cw w0 P b s w) :
    Calls Try.prog 15 #[.pointer (some ⟨b, 0, none⟩)] w fun e w' => ∃ v, e = .returned v ∧ w'.ownsRow w.heap.size 46 2 v s.its.length (ics s.its) ∧ CPost w0 P b s.due w w' ∧ On b w w' := by
  obtain ⟨ad, cap, X, o, hs, hx⟩ := h.sb
  refine (due_any h.ok hs).mono ?_
  rintro e w' ⟨v, h1, h2, h3, h4⟩
  exact ⟨v, h1, h2, ⟨h.on (Sn.due_ok h.ok) h3 hx h4, fun p hp' => h4.block p (h.pl p hp').1 (h.pl p hp').2⟩, h4⟩
theorem cacked {w0 w : World} {P : Option Nat} {b : Nat} {s : Sn} (h : Cw w0 P b s w) : Calls Try.prog 16 #[.pointer (some ⟨b, 0, none⟩)] w fun e w' => e = .returned (.int .i64 (s.go : Int)) ∧ w' = w := by
  obtain ⟨ad, cap, X, o, hs, hx⟩ := h.sb
  exact acked_any hs
theorem csaid {w0 w : World} {P : Option Nat} {b : Nat} {s : Sn} (h : Cw w0 P b s w) : Calls Try.prog 17 #[.pointer (some ⟨b, 0, none⟩)] w fun e w' => e = .returned (.int .i64 (s.said : Int)) ∧ w' = w := by
  obtain ⟨ad, cap, X, o, hs, hx⟩ := h.sb
  exact said_any hs
theorem ctimer {w0 w : World} {P : Option Nat} {b : Nat} {s : Sn} (h : Cw w0 P b s w) : Calls Try.prog 20 #[.pointer (some ⟨b, 0, none⟩)] w fun e w' => e = .returned (.int .i64 (s.ti : Int)) ∧ w' = w := by
  obtain ⟨ad, cap, X, o, hs, hx⟩ := h.sb
  exact timer_any hs
theorem clen {w0 w : World} {P : Option Nat} {b : Nat} {s : Sn} (h : Cw w0 P b s w) : Calls Try.prog 19 #[.pointer (some ⟨b, 0, none⟩)] w fun e w' => e = .returned (.int .i64 (s.len : Int)) ∧ ∃ m, w' = w.drewN m := by
  obtain ⟨ad, cap, X, o, hs, hx⟩ := h.sb
  exact len_any h.ok.l hs
theorem croom {w0 w : World} {P : Option Nat} {b : Nat} {s : Sn} (h : Cw w0 P b s w) : Calls Try.prog 21 #[.pointer (some ⟨b, 0, none⟩)] w fun e w' => e = .returned (.bool (decide (s.R.length < s.wd))) ∧ ∃ m, w' = w.drewN m := by
  obtain ⟨ad, cap, X, o, hs, hx⟩ := h.sb
  exact room_any h.ok hs
/-- a new one -/
def NwP (x y : Int) (w : World) (e : Ending) (w' : World) : Prop :=
  (¬ may x y ∧ e = .returned (.tuple #[.pointer none, .int .i64 140]) ∧ w' = w) ∨ (may x y ∧ e = .returned (.tuple #[.pointer (some ⟨w.heap.size, 0, none⟩), .int .i64 0]) ∧ Cw w none w.heap.size (newS x.toNat y.toNat) w')
theorem cnew (w : World) {x y : Int} (hx : -9223372036854775808 ≤ x ∧ x ≤ 9223372036854775807) (hy : -9223372036854775808 ≤ y ∧ y ≤ 9223372036854775807) :
    Calls Try.prog 6 #[.int .i64 x, .int .i64 y] w (NwP x y w) := by
  refine (snew_any w hx hy).mono ?_
  rintro e w' (⟨h1, h2, h3⟩ | ⟨h1, h2, h3, h4⟩)
  · exact .inl ⟨h1, h2, h3⟩
  · refine .inr ⟨h1, h2, ⟨newS_ok (by have := h1.1; omega) (by have := h1.2.1; omega) (by have := h1.2.2.1; omega) (by have := h1.2.2.2; omega), Nat.le_refl _, h4, ⟨_, _, _, _, h3, fun h0 => absurd h0 (by decide)⟩, fun p hp => by cases hp⟩⟩
set_option maxHeartbeats 1000000 in
theorem eql_it (n : Int) (t : ByteArray) (w : World) : (binOp .eql 46 (.agg #[.int .i64 n, .string t]) (.agg #[.int .i64 n, .string t])).run Try.prog w = .ok (.bool true) w := by
  have h : (Op.equalIn 10000 46 (.agg #[.int .i64 n, .string t]) (.agg #[.int .i64 n, .string t])).run Try.prog w = .ok true w := by
    go_simp
  rw [run_eql_struct, h]; rfl
def sA : Sn := ⟨2, 3, 0, [⟨#[97]⟩, ⟨#[98]⟩, ⟨#[99]⟩], 0, 0⟩
set_option maxHeartbeats 4000000 in
set_option maxRecDepth 8000 in
theorem awake_any (w : World) : Calls Try.prog 8 #[] w fun e w' => e = .returned (.bool true) ∧ Below w.heap.size w w' := by
  have HN := hide (cnew w (x := 2) (y := 3) (by decide) (by decide))
  go_enter Try.func8, Try.ntmps8
  go_wp2_with fail
  refine HN.out.mono ?_
  rintro e w1 (⟨hno, _⟩ | ⟨_, rfl, hC⟩)
  · exact absurd (show may 2 3 by unfold may; decide) hno
  obtain ⟨B, hB⟩ : ∃ B, w.heap.size = B := ⟨_, rfl⟩
  rw [show Value.pointer (some ⟨w.heap.size, 0, none⟩) = Value.pointer (some ⟨B, 0, none⟩) by rw [hB]]
  rw [hB] at hC
  have HC := hide hC
  clear HN hC hB
  go_wp2_with fail
  refine (cnew w1 (x := 0) (y := 1) (by decide) (by decide)).mono ?_
  rintro e w2 (⟨_, rfl, hw⟩ | ⟨hyes, _⟩)
  · subst hw
    go_wp2_with fail
    refine (cput HC.out _).mono ?_
    rintro e w2 ⟨rfl, hC2, _⟩
    rw [show Sn.putE (newS (Int.toNat 2) (Int.toNat 3)) _ = 0 from rfl]
    have HC := hide hC2
    clear hC2
    go_wp2_with fail
    refine (cput HC.out _).mono ?_
    rintro e w3 ⟨rfl, hC3, _⟩
    rw [show Sn.putE _ _ = 0 from rfl]
    have HC := hide hC3
    clear hC3
    go_wp2_with fail
    refine (cput HC.out _).mono ?_
    rintro e w4 ⟨rfl, hC4, _⟩
    rw [show Sn.putE _ _ = 0 from rfl]
    have HC : Hid (Cw w none B sA w4) := hide hC4
    clear hC4
    go_wp2_with fail
    refine (croom HC.out).mono ?_
    rintro e w5 ⟨rfl, m5, hw5⟩
    rw [show decide (sA.R.length < sA.wd) = false from rfl]
    have HC : Hid (Cw w none B sA w5) := hide (by rw [hw5]; exact HC.out.drewN _)
    clear hw5
    go_wp2_with fail
    refine (cdue HC.out).mono ?_
    rintro e w6 ⟨v, rfl, hown, ⟨hC6, _⟩, _⟩
    have hown : w6.ownsRow w5.heap.size 46 2 v 2 [.int .i64 0, .string ⟨#[97]⟩, .int .i64 1, .string ⟨#[98]⟩] := hown
    obtain ⟨g, cap, cur, rfl, _, hg, _, _, hcur⟩ := own_form hown (by decide)
    have hcs := hown.cells (g := g) rfl
    have g0 := hcs 0 _ rfl
    have g1 := hcs 1 _ rfl
    have g2 := hcs 2 _ rfl
    have g3 := hcs 3 _ rfl
    simp only [Addr.add_lit] at g0 g1 g2 g3
    have q0 := eql_it 0 ⟨#[97]⟩
    have q1 := eql_it 1 ⟨#[98]⟩
    have HC : Hid (Cw w none B ⟨2, 3, 0, [⟨#[97]⟩, ⟨#[98]⟩, ⟨#[99]⟩], 2, 3⟩ w6) := hide hC6
    clear hcs hg hcur hown hC6
    go_wp2_with fail
    refine (ctimer HC.out).mono ?_
    rintro e w7 ⟨rfl, rfl⟩
    go_wp2_with fail
    refine (csaid HC.out).mono ?_
    rintro e w8 ⟨rfl, rfl⟩
    go_wp2_with fail
    refine (cack HC.out 1 (by decide)).mono ?_
    rintro e w9 ⟨rfl, ⟨hC9, _⟩, _⟩
    rw [show Sn.ackB _ 1 = true from rfl]
    have HC : Hid (Cw w none B ⟨2, 3, 1, [⟨#[98]⟩, ⟨#[99]⟩], 2, 3⟩ w9) := hide hC9
    clear hC9
    go_wp2_with fail
    refine (cacked HC.out).mono ?_
    rintro e wA ⟨rfl, rfl⟩
    go_wp2_with fail
    refine (clen HC.out).mono ?_
    rintro e wB ⟨rfl, mB, hwB⟩
    rw [show Sn.len _ = 3 from rfl]
    have HB : Hid (Below w.heap.size w wB) := hide (by rw [hwB]; exact below_drewN HC.out.bel _)
    clear hwB
    go_wp2_with fail
    go_ret
    exact ⟨rfl, HB.out⟩
  · exact absurd hyes (by unfold may; decide)
end Go.Proofs.Yteckkaapibbpcaa
