import Derived.Test.YtjfgmdiafhkbgaaAuC
namespace Go.Proofs.Ytjfgmdiafhkbgaa
open Go.RowKit Go.MapKept
set_option maxRecDepth 8000

theorem lt26 {i : Nat} (h : i < 26) : i = 0 ∨ i = 1 ∨ i = 2 ∨ i = 3 ∨ i = 4 ∨ i = 5 ∨ i = 6 ∨ i = 7 ∨ i = 8 ∨ i = 9 ∨ i = 10 ∨ i = 11 ∨ i = 12 ∨ i = 13 ∨ i = 14 ∨ i = 15 ∨ i = 16 ∨ i = 17 ∨ i = 18 ∨ i = 19 ∨ i = 20 ∨ i = 21 ∨ i = 22 ∨ i = 23 ∨ i = 24 ∨ i = 25 := by omega
def knw (h : Hs) (i : Nat) : Bool := decide (i < h.jobs.length)
def nxt (h : Hs) (i : Nat) : Bool := decide (i = h.jobs.length)
def jat (h : Hs) (i : Nat) : Jb := h.jobs[i]!
def isS (h : Hs) (i : Nat) (st : Int) : Bool := knw h i && ((jat h i).st == st)
def hld (h : Hs) (i : Nat) (ba : Int) : Bool := isS h i 2 && ((jat h i).ba == ba)
def stl (h : Hs) (i : Nat) : Bool := isS h i 3 || isS h i 4
abbrev nr (i : Nat) : Value := .int .i64 ((i : Int) + 1)
section
variable {w w' : World} {B b : Nat} {h : Hs} {s : Hi}
/-- the jobs' row, opened -/
theorem Hm.open (H : Hm w B b h s) : ∃ ad cap, s.jv = .slice ad h.jobs.length cap ∧ ∀ i, i < h.jobs.length → ∃ g v, ad = some ⟨g, 0, none⟩ ∧ s.L[i]? = some (jat h i, v) ∧
    w.cell? ⟨g, i * 5, none⟩ = some (.int .i64 (jat h i).st) ∧ w.cell? ⟨g, i * 5 + 1, none⟩ = some (.int .i64 (jat h i).ba) ∧ w.cell? ⟨g, i * 5 + 2, none⟩ = some (.int .i64 (jat h i).rt) ∧ w.cell? ⟨g, i * 5 + 3, none⟩ = some (.int .u64 (jat h i).rb) ∧ w.cell? ⟨g, i * 5 + 4, none⟩ = some v := by
  obtain ⟨ad, cap, hv⟩ := own_slice H.row
  refine ⟨ad, cap, by rw [hv, H.len], fun i hi => ?_⟩
  have hL : i < s.L.length := by rw [H.len]; exact hi
  have hj : s.L[i]? = some (jat h i, (s.L[i]).2) := by
    rw [List.getElem?_eq_getElem hL]
    congr 1
    refine Prod.ext ?_ rfl
    have e : h.jobs[i]! = (s.L.map Prod.fst)[i]! := by rw [H.jobs]
    show (s.L[i]).1 = h.jobs[i]!
    rw [e, getElem!_pos _ _ (by simpa using hL), List.getElem_map]
  rcases H.row.2 with ⟨_, h0⟩ | ⟨g, cap', cur, h1, _⟩
  · omega
  have hr := H.row
  rw [h1] at hr
  have hc : ∀ k, k < 5 → w.cell? ⟨g, i * 5 + k, none⟩ = ((jat h i).cs (s.L[i]).2)[k]? := fun k hk => by
    rw [hr.cellAt _ (by omega), jcs_at _ _ _ _ hj hk]
  rw [hv] at h1
  injection h1 with h1
  exact ⟨g, _, h1, hj, hc 0 (by decide), hc 1 (by decide), hc 2 (by decide), hc 3 (by decide), hc 4 (by decide)⟩
theorem known_any (H : Hm w B b h s) (i : Nat) : Calls Try.prog 61 #[.pointer (some ⟨b, 0, none⟩), nr i] w fun e w' => e = .returned (.bool (knw h i)) ∧ Below w.heap.size w w' := by
  obtain ⟨ad, cap, hv, _⟩ := H.open
  have c0 := H.cell 0 (by decide)
  have e : knw h i = decide ((i : Int) + 1 ≤ (h.jobs.length : Int)) := by unfold knw; congr 1; simp; omega
  rw [e]
  dsimp only [hc] at c0
  rw [hv] at c0
  have l8 := H.l8
  clear H e hv
  go_enter Try.func61, Try.ntmps61
  go_wp2
  go_ret
  exact ⟨rfl, Below.refl _ _⟩
theorem isNext_any (H : Hm w B b h s) (i : Nat) : Calls Try.prog 58 #[.pointer (some ⟨b, 0, none⟩), nr i] w fun e w' => e = .returned (.bool (nxt h i)) ∧ Below w.heap.size w w' := by
  obtain ⟨ad, cap, hv, _⟩ := H.open
  have c0 := H.cell 0 (by decide)
  have e : nxt h i = ((i : Int) + 1 == (h.jobs.length : Int) + 1) := by
    unfold nxt
    by_cases hh : i = h.jobs.length
    · simp [hh]
    · have : ¬ (i : Int) = (h.jobs.length : Int) := by omega
      simp [hh, this]
  rw [e]
  dsimp only [hc] at c0
  rw [hv] at c0
  have l8 := H.l8
  clear H e hv
  go_enter Try.func58, Try.ntmps58
  go_wp2
  go_ret
  exact ⟨rfl, Below.refl _ _⟩
theorem is_any (H : Hm w B b h s) (i : Nat) (st : Int) : Calls Try.prog 60 #[.pointer (some ⟨b, 0, none⟩), nr i, .int .i64 st] w fun e w' => e = .returned (.bool (isS h i st)) ∧ Below w.heap.size w w' := by
  have HK := hide (known_any H i)
  obtain ⟨ad, cap, hv, hc1⟩ := H.open
  have H0 := hide H
  unfold isS
  cases hk : knw h i with
  | false =>
    rw [hk] at HK
    clear H hc1 hk
    rw [Bool.false_and]
    go_enter Try.func60, Try.ntmps60
    go_wp2_with fail
    refine HK.out.mono ?_
    rintro e w1 ⟨rfl, hb⟩
    have HB := hide hb
    clear hb
    go_wp2_with fail
    go_ret
    exact ⟨rfl, HB.out⟩
  | true =>
    rw [hk] at HK
    have hi : i < h.jobs.length := by simpa [knw] using hk
    obtain ⟨g, v, rfl, _, _⟩ := hc1 i hi
    rw [Bool.true_and]
    have l8 := H.l8
    have ii : (i : Int) < (h.jobs.length : Int) := by omega
    have HI := hide hi
    clear H hc1 hk hi
    go_enter Try.func60, Try.ntmps60
    go_wp2_with fail
    refine HK.out.mono ?_
    rintro e w1 ⟨rfl, hb⟩
    have HB := hide hb
    have c0 := (H0.out.below hb).cell 0 (by decide)
    dsimp only [hc] at c0
    rw [hv] at c0
    obtain ⟨_, _, hv2, hc2⟩ := (H0.out.below hb).open
    rw [hv] at hv2
    injection hv2 with e1 _ e2
    subst e2
    obtain ⟨g', v', e3, _, k0, _⟩ := hc2 i HI.out
    rw [← e1] at e3
    injection e3 with e3
    injection e3 with e3
    subst e3
    clear hb hc2 hv e1
    go_wp2_with fail
    go_ret
    exact ⟨rfl, HB.out⟩
theorem Hm.grow (H : Hm w B b h s) {ad : Option Addr} {n cap : Nat} (hv : s.jv = .slice ad n cap) {i : Nat} (hi : i < h.jobs.length) : ∃ g, ad = some ⟨g, 0, none⟩ := by
  obtain ⟨_, _, hv2, hc2⟩ := H.open
  rw [hv] at hv2
  injection hv2 with e1 _ _
  subst e1
  obtain ⟨g, _, e, _⟩ := hc2 i hi
  exact ⟨g, e⟩
theorem Hm.at (H : Hm w B b h s) {g n cap : Nat} (hv : s.jv = .slice (some ⟨g, 0, none⟩) n cap) {i : Nat} (hi : i < h.jobs.length) : ∃ v, s.L[i]? = some (jat h i, v) ∧
    w.cell? ⟨g, i * 5, none⟩ = some (.int .i64 (jat h i).st) ∧ w.cell? ⟨g, i * 5 + 1, none⟩ = some (.int .i64 (jat h i).ba) ∧ w.cell? ⟨g, i * 5 + 2, none⟩ = some (.int .i64 (jat h i).rt) ∧ w.cell? ⟨g, i * 5 + 3, none⟩ = some (.int .u64 (jat h i).rb) ∧ w.cell? ⟨g, i * 5 + 4, none⟩ = some v := by
  obtain ⟨_, _, hv2, hc2⟩ := H.open
  rw [hv] at hv2
  injection hv2 with e1 _ _
  subst e1
  obtain ⟨g', v, e, h2⟩ := hc2 i hi
  injection e with e
  injection e with e
  subst e
  exact ⟨v, h2⟩
theorem Hm.c0 (H : Hm w B b h s) {v : Value} (hv : s.jv = v) : w.cell? ⟨b, 0, none⟩ = some v := by
  rw [← hv]; exact H.cell 0 (by decide)
theorem Hm.form (H : Hm w B b h s) : ∃ ad cap, s.jv = .slice ad h.jobs.length cap := by
  obtain ⟨ad, cap, hv, _⟩ := H.open
  exact ⟨ad, cap, hv⟩
theorem held_any (H : Hm w B b h s) (i : Nat) (ba : Int) : Calls Try.prog 62 #[.pointer (some ⟨b, 0, none⟩), nr i, .int .i64 ba] w fun e w' => e = .returned (.bool (hld h i ba)) ∧ Below w.heap.size w w' := by
  have HK := hide (is_any H i 2)
  obtain ⟨ad, cap, hv⟩ := H.form
  have H0 := hide H
  unfold hld
  cases hk : isS h i 2 with
  | false =>
    rw [hk] at HK
    clear H hk
    rw [Bool.false_and]
    go_enter Try.func62, Try.ntmps62
    go_wp2_with fail
    refine HK.out.mono ?_
    rintro e w1 ⟨rfl, hb⟩
    have HB := hide hb
    clear hb
    go_wp2_with fail
    go_ret
    exact ⟨rfl, HB.out⟩
  | true =>
    rw [hk] at HK
    have hi : i < h.jobs.length := by
      unfold isS at hk
      simp only [Bool.and_eq_true] at hk
      simpa [knw] using hk.1
    obtain ⟨g, rfl⟩ := H.grow hv hi
    rw [Bool.true_and]
    have l8 := H.l8
    have ii : (i : Int) < (h.jobs.length : Int) := by omega
    have HI := hide hi
    clear H hk hi
    go_enter Try.func62, Try.ntmps62
    go_wp2_with fail
    refine HK.out.mono ?_
    rintro e w1 ⟨rfl, hb⟩
    have HB := hide hb
    have c0 := (H0.out.below hb).c0 hv
    obtain ⟨_, _, _, k1, _⟩ := (H0.out.below hb).at hv HI.out
    clear hb hv
    go_wp2_with fail
    go_ret
    exact ⟨rfl, HB.out⟩
theorem settled_any (H : Hm w B b h s) (i : Nat) : Calls Try.prog 63 #[.pointer (some ⟨b, 0, none⟩), nr i] w fun e w' => e = .returned (.bool (stl h i)) ∧ Below w.heap.size w w' := by
  have HK := hide (is_any H i 3)
  have H0 := hide H
  unfold stl
  clear H
  cases hk : isS h i 3 with
  | true =>
    rw [hk] at HK
    clear hk
    rw [Bool.true_or]
    go_enter Try.func63, Try.ntmps63
    go_wp2_with fail
    refine HK.out.mono ?_
    rintro e w1 ⟨rfl, hb⟩
    have HB := hide hb
    clear hb
    go_wp2_with fail
    go_ret
    exact ⟨rfl, HB.out⟩
  | false =>
    rw [hk] at HK
    clear hk
    rw [Bool.false_or]
    go_enter Try.func63, Try.ntmps63
    go_wp2_with fail
    refine HK.out.mono ?_
    rintro e w1 ⟨rfl, hb⟩
    have HB := hide hb
    have HK2 := hide (is_any (H0.out.below hb) i 4)
    clear hb
    go_wp2_with fail
    refine HK2.out.mono ?_
    rintro e w2 ⟨rfl, hb⟩
    have HB2 := hide (below_of HB.out hb)
    clear hb
    go_wp2_with fail
    go_ret
    exact ⟨rfl, HB2.out⟩
/-- are not all shown that were to be? -/
def msg (h : Hs) : Bool := h.sh && decide (h.up < (h.jobs.length : Int))
theorem endShowing_any (H : Hm w B b h s) : Calls Try.prog 50 #[.pointer (some ⟨b, 0, none⟩)] w fun e w' => e = .returned (.bool (msg h)) ∧ Hm w' B b { h with sh := false } s ∧ Kt B w w' := by
  have H0 := hide H
  obtain ⟨ad, cap, hv⟩ := H.form
  have c0 := H.c0 hv
  have c24 := H.cell 24 (by decide)
  have c25 := H.cell 25 (by decide)
  have z24 := H.z 24
  dsimp only [hc] at c24 c25
  have HF : Hid (∀ n, Hm ((w.drewN n).setCell ⟨b, 24, none⟩ (.bool false)) B b { h with sh := false } s ∧ Kt B w ((w.drewN n).setCell ⟨b, 24, none⟩ (.bool false))) := hide fun n => by
    have hb := below_drewN (Below.refl w.heap.size w) n
    obtain ⟨h1, h2⟩ := (H0.out.below hb).setb 24 (by decide) (.bool false) { h with sh := false } ⟨rfl, rfl, rfl, rfl, rfl⟩ (fun i hi => by rcases lt26 hi with rfl|rfl|rfl|rfl|rfl|rfl|rfl|rfl|rfl|rfl|rfl|rfl|rfl|rfl|rfl|rfl|rfl|rfl|rfl|rfl|rfl|rfl|rfl|rfl|rfl|rfl <;> rfl)
    exact ⟨h1, (Kt.of_below hb).trans h2⟩
  unfold msg
  clear H hv
  generalize hsh : h.sh = sh at *
  cases sh with
  | false =>
    rw [Bool.false_and]
    go_enter Try.func50, Try.ntmps50
    go_wp2_with fail
    go_quiet (fail)
    go_wp2_with fail
    go_ret
    exact ⟨rfl, HF.out _⟩
  | true =>
    rw [Bool.true_and]
    go_enter Try.func50, Try.ntmps50
    go_wp2_with fail
    go_quiet (fail)
    go_wp2_with fail
    go_ret
    exact ⟨rfl, HF.out _⟩
end
end Go.Proofs.Ytjfgmdiafhkbgaa
