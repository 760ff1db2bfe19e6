import Derived.Test.YtjpcghkdedldiaaLsQ
namespace Go.Proofs.Ytjpcghkdedldiaa
open Go.RowKit

theorem below_drewN {w W : World} {B : Nat} (h : Below B w W) (n : Nat) : Below B w (W.drewN n) := ⟨h.os, h.tape, h.output, h.size, h.block⟩
/-- a number, counted round -/
def pl (n : Int) (m : Nat) : Nat := (if n.tmod (m : Int) < 0 then n.tmod (m : Int) + m else n.tmod (m : Int)).toNat
theorem pl_lt {n : Int} {m : Nat} (h0 : 0 < m) : pl n m < m := by
  have ht1 : n.tmod (m : Int) < (m : Int) := Int.tmod_lt_of_pos _ (by omega)
  unfold pl
  split <;> omega
set_option maxHeartbeats 400000 in
theorem place_any {w : World} {n : Int} {m : Nat} (h0 : 0 < m) (h1 : m ≤ 1000) (_ : -9223372036854775808 ≤ n ∧ n ≤ 9223372036854775807) :
    Calls Try.prog 12 #[.int .i64 n, .int .i64 (m : Int)] w fun e w' => e = .returned (.int .i64 (pl n m : Int)) ∧ w' = w := by
  have ht1 : n.tmod (m : Int) < (m : Int) := Int.tmod_lt_of_pos _ (by omega)
  have ht2 : -(m : Int) < n.tmod (m : Int) := Int.lt_tmod_of_pos _ (by omega)
  have hz : (m : Int) ≠ 0 := by omega
  have hz1 : (m : Int) ≠ -1 := by omega
  unfold pl
  generalize ht : n.tmod (m : Int) = t at *
  obtain ⟨r, hr⟩ : ∃ r : Int, (((if t < 0 then t + m else t).toNat : Nat) : Int) = r := ⟨_, rfl⟩
  rw [hr]
  by_cases h : t < 0
  · have b0 : decide (t < 0) = true := by simpa using h
    have HR : Hid (r = t + m) := by rw [if_pos h] at hr; show r = t + m; omega
    clear hr
    go_enter Try.func12, Try.ntmps12
    go_wp2
    go_ret
    rw [HR.out]
    exact ⟨rfl, rfl⟩
  · have b0 : decide (t < 0) = false := by simpa using h
    have HR : Hid (r = t) := by rw [if_neg h] at hr; show r = t; omega
    clear hr
    go_enter Try.func12, Try.ntmps12
    go_wp2
    go_ret
    rw [HR.out]
    exact ⟨rfl, rfl⟩
set_option maxHeartbeats 1000000 in
theorem same_self {w : World} {ad ad' : Option Addr} {ab ao cap ab' ao' cap' : Nat} {L : List Lz} (h : Rs w ad ab ao L) (h' : Rs w ad' ab' ao' L) (hl : L.length ≤ 2199023255488) :
    Calls Try.prog 17 #[.slice ad L.length cap, .slice ad' L.length cap'] w fun e w' => e = .returned (.bool true) ∧ Below w.heap.size w w' := by
  have HR := hide h
  have HR' := hide h'
  have hg := guardL
  have b0 : ((L.length : Int) != (L.length : Int)) = false := by simp
  clear h h'
  go_enter Try.func17, Try.ntmps17
  go_wp2_with fail
  go_loopw [5] (fun s wr => ∃ (i : Nat), i ≤ L.length ∧ s = .int .i64 (i : Int) ∧ Hid (Below w.heap.size w wr)) (fun s _ => L.length - (intOf s).toNat)
  case atStart => exact ⟨0, Nat.zero_le _, rfl, hide (Below.refl _ _)⟩
  case round =>
    obtain ⟨i, hi, rfl, HB⟩ := hrel
    by_cases hii : i < L.length
    · have hik : (i : Int) < (L.length : Int) := by omega
      have hat := HR.out.at_ (by omega)
      have hat' := HR'.out.at_ (by omega)
      subst hat
      subst hat'
      obtain ⟨c0, c1, c2, c3, c4⟩ := (HR.out.below HB.out).eight hii
      obtain ⟨d0, d1, d2, d3, d4⟩ := (HR'.out.below HB.out).eight hii
      have hn := neqL_run L[i] L[i]
      rw [decide_eq_true rfl] at hn
      generalize L[i] = r at *
      go_wp2_with fail
      go_quiet (fail)
      go_wp2_with fail
      go_roundw
      case rel => exact ⟨i + 1, by omega, by go_num, hide (below_drewN HB.out _)⟩
      case measure => simp only [intOf]; omega
    · have hik : ¬ (i : Int) < (L.length : Int) := by omega
      go_wp2_with fail
      go_ret
      exact ⟨rfl, HB.out⟩

/-- a call of a script -/
structure Lo where
  on : Int
  kind : Int
  job : Int
  bdg : Int
  node : Int
  life : Int
def Lo.cs (d : Lo) : List Value := [.int .i64 d.on, .int .i64 d.kind, .int .i64 d.job, .int .i64 d.bdg, .int .i64 d.node, .int .i64 d.life]
abbrev Lo.val (d : Lo) : Value := .agg #[.int .i64 d.on, .int .i64 d.kind, .int .i64 d.job, .int .i64 d.bdg, .int .i64 d.node, .int .i64 d.life]
abbrev Lo.obj (d : Lo) : Obj := .cells #[.int .i64 d.on, .int .i64 d.kind, .int .i64 d.job, .int .i64 d.bdg, .int .i64 d.node, .int .i64 d.life] 38 (0, 0)
def lo0 : Lo := ⟨0, 0, 0, 0, 0, 0⟩
/-- was it refused? -/
def dsB (L : List Lz) (o : Lo) : Bool :=
  if o.kind = 0 then (grE L o.job o.bdg != 0) else if o.kind = 1 then (naE o.bdg L != 0) else if o.kind = 2 then (naE o.bdg L != 0) else if o.kind = 3 then false else true
def dsL (T : Int) (L : List Lz) (o : Lo) : List Lz :=
  if o.kind = 0 then grL T L o.job o.bdg o.node o.life else if o.kind = 1 then rnw T o.bdg L else if o.kind = 2 then del o.bdg L else if o.kind = 3 then tkL L else L

set_option maxHeartbeats 2000000 in
theorem does_any {w : World} {b m : Nat} {T : Int} {L : List Lz} (h : Ta w b m T L) (o : Lo) : Calls Try.prog 27 #[.pointer (some ⟨b, 0, none⟩), o.val] w fun e w' => e = .returned (.bool (dsB L o)) ∧ Ta w' b m T (dsL T L o) ∧ w.grownBy w' (some m) := by
  have HT := hide (h.alloc o.obj)
  have HB := hide (below_alloc w o.obj)
  clear h
  by_cases h0 : o.kind = 0
  · have HE : Hid (dsB L o = (grE L o.job o.bdg != 0)) := by show dsB L o = _; unfold dsB; rw [if_pos h0]
    have HL : Hid (dsL T L o = grL T L o.job o.bdg o.node o.life) := by show dsL T L o = _; unfold dsL; rw [if_pos h0]
    have b0 : (o.kind == 0) = true := by simpa using h0
    clear h0
    go_enter Try.func27, Try.ntmps27
    go_wp2_with fail
    refine (grant_ok HT.out o.job o.bdg o.node o.life).mono ?_
    rintro e w1 ⟨rfl, ht, hg⟩
    generalize grE L o.job o.bdg = E at *
    go_wp2
    go_ret
    rw [HE.out, HL.out]
    exact ⟨rfl, ht, grown_pre HB.out hg⟩
  have n0 : (o.kind == 0) = false := by simpa using h0
  by_cases h1 : o.kind = 1
  · have HE : Hid (dsB L o = (naE o.bdg L != 0)) := by show dsB L o = _; unfold dsB; rw [if_neg h0, if_pos h1]
    have HL : Hid (dsL T L o = rnw T o.bdg L) := by show dsL T L o = _; unfold dsL; rw [if_neg h0, if_pos h1]
    have b1 : (o.kind == 1) = true := by simpa using h1
    clear h0 h1
    go_enter Try.func27, Try.ntmps27
    go_wp2_with fail
    refine (renew_ok HT.out o.bdg).mono ?_
    rintro e w1 ⟨rfl, ht, hg⟩
    generalize naE o.bdg L = E at *
    go_wp2
    go_ret
    rw [HE.out, HL.out]
    exact ⟨rfl, ht, grown_pre HB.out hg⟩
  have n1 : (o.kind == 1) = false := by simpa using h1
  by_cases h2 : o.kind = 2
  · have HE : Hid (dsB L o = (naE o.bdg L != 0)) := by show dsB L o = _; unfold dsB; rw [if_neg h0, if_neg h1, if_pos h2]
    have HL : Hid (dsL T L o = del o.bdg L) := by show dsL T L o = _; unfold dsL; rw [if_neg h0, if_neg h1, if_pos h2]
    have b2 : (o.kind == 2) = true := by simpa using h2
    clear h0 h1 h2
    go_enter Try.func27, Try.ntmps27
    go_wp2_with fail
    refine (drop_ok HT.out o.bdg).mono ?_
    rintro e w1 ⟨rfl, ht, hg⟩
    generalize naE o.bdg L = E at *
    go_wp2
    go_ret
    rw [HE.out, HL.out]
    exact ⟨rfl, ht, grown_pre HB.out hg⟩
  have n2 : (o.kind == 2) = false := by simpa using h2
  by_cases h3 : o.kind = 3
  · have HE : Hid (dsB L o = false) := by show dsB L o = _; unfold dsB; rw [if_neg h0, if_neg h1, if_neg h2, if_pos h3]
    have HL : Hid (dsL T L o = tkL L) := by show dsL T L o = _; unfold dsL; rw [if_neg h0, if_neg h1, if_neg h2, if_pos h3]
    have b3 : (o.kind == 3) = true := by simpa using h3
    clear h0 h1 h2 h3
    go_enter Try.func27, Try.ntmps27
    go_wp2_with fail
    refine (tick_ok HT.out).mono ?_
    rintro e w1 ⟨v, rfl, ho, ht, hg⟩
    obtain ⟨ad, cap, hv⟩ := own_slice ho
    subst hv
    clear ho
    go_wp2
    go_ret
    rw [HE.out, HL.out]
    exact ⟨rfl, ht, grown_pre HB.out hg⟩
  have n3 : (o.kind == 3) = false := by simpa using h3
  have HE : Hid (dsB L o = true) := by show dsB L o = _; unfold dsB; rw [if_neg h0, if_neg h1, if_neg h2, if_neg h3]
  have HL : Hid (dsL T L o = L) := by show dsL T L o = _; unfold dsL; rw [if_neg h0, if_neg h1, if_neg h2, if_neg h3]
  clear h0 h1 h2 h3
  go_enter Try.func27, Try.ntmps27
  go_wp2
  go_ret
  rw [HE.out, HL.out]
  exact ⟨rfl, HT.out, grown_any HB.out _⟩
/-- a refused call changes nothing -/
theorem dsB_same {T : Int} {L : List Lz} {o : Lo} (h : dsB L o = true) : dsL T L o = L := by
  unfold dsB at h
  unfold dsL
  split at h
  · rename_i e
    rw [if_pos e]
    unfold grL
    exact if_neg (by simpa using h)
  · rename_i e0
    rw [if_neg e0]
    have hna : ∀ g, (naE g L != 0) = true → has g L = false := fun g hg => by
      cases hh : has g L
      · rfl
      · unfold naE at hg; rw [hh] at hg; simp at hg
    split at h
    · rename_i e
      rw [if_pos e]
      exact rnw_none (hna _ h)
    · rename_i e1
      rw [if_neg e1]
      split at h
      · rename_i e
        rw [if_pos e]
        exact del_none (has_false.1 (hna _ h))
      · rename_i e2
        rw [if_neg e2]
        split at h
        · cases h
        · rename_i e3
          rw [if_neg e3]

set_option maxHeartbeats 4000000 in
set_option maxRecDepth 100000 in
theorem fixed_any (w : World) : Calls Try.prog 11 #[] w fun e w' => e = .returned (.bool true) ∧ Below w.heap.size w w' := by
  go_enter Try.func11, Try.ntmps11
  go_wp2_with fail
  refine (new_ok (T := 1) (by decide) (by decide) w).mono ?_
  rintro e w1 ⟨rfl, ht1, hb1⟩
  have HT1 := hide ht1
  have HB1 := hide hb1
  clear ht1 hb1
  go_wp2_with fail
  refine (grant_ok HT1.out 2 7 3 1).mono ?_
  rintro e w2 ⟨rfl, ht2, hg2⟩
  have e2 : grE [] 2 7 = 0 := by decide
  have e3 : grL 1 [] 2 7 3 1 = [⟨2, 7, 3, 1, 1⟩] := by decide
  rw [e2]
  rw [e3] at ht2
  have HT2 := hide ht2
  have HB2 : Hid (Below w.heap.size w w2) := HB1.out.grown hg2 HB1.out.size (fun k e => by cases e; exact Nat.le_refl _)
  clear ht2 hg2 e2 e3 HB1 HT1
  go_wp2_with fail
  refine (find_ok HT2.out 7).mono ?_
  rintro e w3 ⟨rfl, hb3⟩
  have e4 : fnd 7 [(⟨2, 7, 3, 1, 1⟩ : Lz)] = ⟨2, 7, 3, 1, 1⟩ := by decide
  have e5 : has 7 [(⟨2, 7, 3, 1, 1⟩ : Lz)] = true := by decide
  rw [e4, e5]
  have HT3 := hide ((HT2.out.below hb3).alloc (.cells #[.int .i64 2, .int .i64 7, .int .i64 3, .int .i64 1, .int .i64 1] 54))
  have HB3 := hide ((below_of HB2.out hb3).alloc (below_of HB2.out hb3).size (.cells #[.int .i64 2, .int .i64 7, .int .i64 3, .int .i64 1, .int .i64 1] 54))
  have hc3 : (w3.alloc (.cells #[.int .i64 2, .int .i64 7, .int .i64 3, .int .i64 1, .int .i64 1] 54)).cell? ⟨w3.heap.size, 4, none⟩ = some (.int .i64 1) := by simp
  have hne3 : w3.heap.size ≠ w.heap.size := by have := HB2.out.size; have := hb3.size; have := HT2.out.tb.map.lt; omega
  clear e4 e5 hb3 HT2 HB2
  go_wp2_with fail
  generalize w3.alloc (.cells #[.int .i64 2, .int .i64 7, .int .i64 3, .int .i64 1, .int .i64 1] 54) = W3 at *
  refine (tick_ok HT3.out).mono ?_
  rintro e w4 ⟨v, rfl, ho, ht4, hg4⟩
  have e6 : tkO [(⟨2, 7, 3, 1, 1⟩ : Lz)] = [⟨2, 7, 3, 1, 0⟩] := by decide
  rw [e6] at ho
  have HB4 : Hid (Below w.heap.size w w4) := HB3.out.grown hg4 HB3.out.size (fun k e => by cases e; exact Nat.le_refl _)
  have hc4 := hg4.cell hc3 (fun e => by injection e with e; exact hne3 e)
  obtain ⟨ad, cap, hv⟩ := own_slice ho
  subst hv
  obtain ⟨ab, hR, _⟩ := Rs.own ho
  have hat := hR.at_ (by decide)
  subst hat
  obtain ⟨q0, q1, q2, q3, q4⟩ := hR.eight0 (i := 0) (by decide)
  have hq : ∀ W, (binOp .eql 54 (.agg #[.int .i64 2, .int .i64 7, .int .i64 3, .int .i64 1, .int .i64 0]) (.agg #[.int .i64 2, .int .i64 7, .int .i64 3, .int .i64 1, .int .i64 0])).run Try.prog W = .ok (.bool true) W := fun W => eqlL_run ⟨2, 7, 3, 1, 0⟩ ⟨2, 7, 3, 1, 0⟩ W
  have hgd := guardL
  simp only [List.length_cons, List.length_nil, List.getElem_cons_zero, Nat.zero_mul, Nat.zero_add] at q0 q1 q2 q3 q4 ⊢
  clear ho ht4 hg4 e6 hR hc3 HT3 HB3
  go_wp2_with fail
  go_ret
  exact ⟨rfl, HB4.out⟩
end Go.Proofs.Ytjpcghkdedldiaa
