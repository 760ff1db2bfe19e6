import Derived.Test.YtjpcghkdedldiaaLsZ
import Derived.Laws.AppendOwnNone
import Derived.Laws.OwnMore
namespace Go.Proofs.Ytjpcghkdedldiaa
open Go.RowKit

theorem Rs.cells {w : World} {ad : Option Addr} {ab ao : Nat} {L : List Lz} (h : Rs w ad ab ao L) (j : Nat) (v : Value) (hj : (lcs L)[j]? = some v) : w.cell? ((⟨ab, ao, none⟩ : Addr).add j) = some v := by
  have hl : j < (lcs L).length := (List.getElem?_eq_some_iff.1 hj).1
  rw [lcs_len] at hl
  have e : j = j / 5 * 5 + j % 5 := by omega
  have h1 := h.c (j / 5) (by omega) (j % 5) (by omega)
  have h2 := lcs_get L (j / 5) (j % 5) (by omega) (by omega)
  rw [← e, hj] at h2
  rw [← h2] at h1
  rw [Addr.add_lit, show ao + j = ao + j / 5 * 5 + j % 5 by omega]
  exact h1
theorem run_append_nothing {P : Program} {w : World} (base : Nat) (t ty e : TypeId) (i : TypeInfo) (size c : Nat) (ht : P.underlying t = some (.slice e)) (hi : P.info? e = some i)
    (v : Value) (n : Nat) (xs : List Value) (hown : w.ownsRow base e size v n xs) : (Builtin.append_ #[t, t] ty #[v, .slice none 0 c]).run P w = .ok v w := by
  rcases hown.2 with ⟨rfl, rfl⟩ | ⟨g, cap, cur, rfl, _, _, hnc, _⟩
  · simp [Builtin.append_, run_underlying ht, sizeOf, typeInfo, hi, Builtin.lenOf, Builtin.firstCells]
  · simp [Builtin.append_, run_underlying ht, sizeOf, typeInfo, hi, Builtin.lenOf, Builtin.firstCells, hnc, storeCells]
/-- append of what is read, nil or not -/
theorem wpList_append_read {P : Program} {w : World} {ops : Array Oper} {rest : List Oper} {o : Oper} {a : Act} {Q : Exit → Act → World → Prop} (hgd : o.guard = none) (s x : Operand) (t : TypeId)
    (ho : o.op = .call { callee := .builtin .append, args := #[s, x], argTypes := #[t, t] })
    (base : Nat) (e : TypeId) (i : TypeInfo) (z : Value) (size bytes : Nat) (ht : P.underlying t = some (.slice e)) (hi : P.info? e = some i) (hz : i.zero = some z)
    (hsize : i.size = size) (hby : i.bytes = bytes) (hzs : z.cells.size = size) (hsz : 0 < size)
    (v : Value) (n : Nat) (xs : List Value) (hs : a.eval s = v) (hown : w.ownsRow base e size v n xs)
    (ad : Option Addr) (m c : Nat) (ys : List Value) (hx : a.eval x = .slice ad m c) (hlen : ys.length = m * size) (hnone : ad = none → m = 0) (hsrc : ∀ a0, ad = some a0 → ∀ j u, ys[j]? = some u → w.cell? (a0.add j) = some u) (h1 : ∀ u ∈ ys, u.oneCell' = true)
    (h63 : n + m ≤ maxLen) (hbytes : (n + m) * bytes ≤ 140737488355328) (hbase : base ≤ w.heap.size)
    (h : ∀ v' w', w'.ownsRow base e size v' (n + m) (xs ++ ys) → w.grownBy w' v.ownBlock → wpList P ops Q rest (a.put o.dst v') w') : wpList P ops Q (o :: rest) a w := by
  cases ad with
  | none =>
    obtain rfl := hnone rfl
    obtain rfl : ys = [] := List.length_eq_zero_iff.1 (by rw [hlen, Nat.zero_mul])
    have hrun := run_append_nothing (P := P) (w := w) base t o.type e i size c ht hi v n xs hown
    refine wpList_plain hgd fun K hK => ?_
    unfold Oper.wp
    simp [execOp, ho, resolve, invoke, builtin, hs, hx, hrun, Result.andThen]
    exact hK _ _ (h v w (by rw [Nat.add_zero, List.append_nil]; exact hown) ⟨rfl, rfl, rfl, Nat.le_refl _, fun _ _ _ => rfl⟩)
  | some a0 =>
    refine wpList_append_own _ hgd s x t ho base e i z size bytes ht hi hz hsize hby hzs hsz v n xs hs hown a0 m c ys hx hlen (hsrc a0 rfl) h1 h63 hbytes hbase ?_
    intro v' w' h2 h3 _
    exact h v' w' h2 h3
theorem Rs.src {w : World} {ad : Option Addr} {ab ao : Nat} {L : List Lz} (h : Rs w ad ab ao L) : ∀ a0, ad = some a0 → ∀ j u, (lcs L)[j]? = some u → w.cell? (a0.add j) = some u := by
  intro a0 ha j u hu
  have hl : j < (lcs L).length := (List.getElem?_eq_some_iff.1 hu).1
  rw [lcs_len] at hl
  have e := h.at_ (by omega)
  rw [ha] at e
  injection e with e
  subst e
  exact h.cells j u hu
theorem Rs.none {w : World} {ad : Option Addr} {ab ao : Nat} {L : List Lz} (h : Rs w ad ab ao L) : ad = Option.none → L.length = 0 := fun e => by
  rcases Nat.eq_zero_or_pos L.length with h0 | h0
  · exact h0
  · have := h.at_ h0; rw [e] at this; cases this

theorem lcs_left (T : Int) : ∀ (L : List Lz) (i : Nat) (h : i < L.length), (lcs L).set (i * 5 + 4) (.int .i64 T) = lcs (L.set i { L[i] with left := T })
  | [], _, h => by simp at h
  | x :: l, 0, _ => by simp [lcs, Lz.cs]
  | x :: l, i + 1, h => by
    have h5 : x.cs.length = 5 := rfl
    have ih := lcs_left T l i (by simpa using h)
    simp only [lcs, List.set_cons_succ, List.getElem_cons_succ]
    rw [List.set_append_right _ _ (by rw [h5]; omega), h5, show (i + 1) * 5 + 4 - 5 = i * 5 + 4 by omega, ih]
theorem rnw_set {T g : Int} {L : List Lz} (hR : Rise L) {i : Nat} (hi : i < L.length) (hg : (L[i]).bdg = g) : rnw T g L = L.set i { L[i] with left := T } := by
  refine List.ext_getElem? fun j => ?_
  unfold rnw
  rw [List.getElem?_map, List.getElem?_set]
  by_cases hij : i = j
  · subst hij
    rw [if_pos rfl, if_pos hi, List.getElem?_eq_getElem hi, Option.map_some, if_pos hg]
  · rw [if_neg hij]
    cases hj : L[j]? with
    | none => rfl
    | some y =>
      obtain ⟨hjl, e⟩ := List.getElem?_eq_some_iff.1 hj
      rw [Option.map_some, if_neg]
      intro e2
      subst e
      rcases Nat.lt_trichotomy i j with h3 | h3 | h3
      · have := List.pairwise_iff_getElem.1 hR i j hi hjl h3; omega
      · exact hij h3
      · have := List.pairwise_iff_getElem.1 hR j i hjl hi h3; omega
theorem rnw_len (T g : Int) (L : List Lz) : (rnw T g L).length = L.length := by unfold rnw; rw [List.length_map]

set_option maxRecDepth 100000 in
set_option maxHeartbeats 4000000 in
theorem xrenew_any {w : World} {x : Nat} {T : Int} {ad : Option Addr} {ab cap : Nat} {L : List Lz} (h : Xt w x T ad ab cap L) (hR : Rise L) (hl : L.length ≤ 12) (g : Int) : Calls Try.prog 28 #[.pointer (some ⟨x, 0, none⟩), .int .i64 g] w fun e w' => e = .returned (.int .i64 (naE g L)) ∧ (∃ ad' ab' cap', Xt w' x T ad' ab' cap' (rnw T g L)) ∧ w.grownBy w' (some x) := by
  obtain ⟨i0, hi0, hz0, hz1, hz2⟩ := info_parts Try.infoL
  have HX := hide h
  have HRI := hide hR
  have hlt := h.lt
  have d1 := h.c1
  have HM0 := hide (World.ownsRow_made (base := w.heap.size) (e := 54) (size := 5) w #[] 0 (Nat.le_refl _) (Nat.zero_le _) rfl)
  have HB0 := hide (below_alloc w (.cells #[] 54))
  have HSR := hide (h.rs.below (below_alloc w (.cells #[] 54)))
  clear h hR
  go_enter Try.func28, Try.ntmps28
  go_wp2_with (at_builtin; refine wpList_append_read rfl _ _ 42 rfl w.heap.size 54 i0 lz0.val 5 40 Try.underlying42 hi0 hz0 hz1 hz2 rfl (by decide) (.slice (some ⟨w.heap.size, 0, none⟩) 0 0) 0 [] rfl HM0.out ad L.length cap (lcs L) rfl (lcs_len L) HSR.out.none HSR.out.src (lcs_one_cell L) (by unfold maxLen; omega) (by omega) (by simp) ?_; intro v3 w3 hown3 hgrow3; (rw [Nat.zero_add, List.nil_append] at hown3); (obtain ⟨ad3, cap3, hv3⟩ := own_slice hown3); subst hv3; (have HO3 := hide hown3); (have HG3 := hide hgrow3); clear hown3 hgrow3)
  have HB3 : Hid (Below w.heap.size w w3) := HB0.out.grown HG3.out (by simp) (fun k e => (HM0.out.lt k e).1)
  obtain ⟨ab3, hR3, _⟩ := Rs.own HO3.out
  have HR3 := hide hR3
  clear HG3 HB0 HM0 HSR hR3
  go_loopw [6] (fun s wr => ∃ (i : Nat), i ≤ L.length ∧ s = .int .i64 (i : Int) ∧ Hid (wr = w3) ∧ Hid (has g (L.take i) = false)) (fun s _ => L.length - (intOf s).toNat)
  case atStart => exact ⟨0, Nat.zero_le _, rfl, rfl, rfl⟩
  case round =>
    obtain ⟨i, hi, rfl, HW, HH⟩ := hrel
    have hw := HW.out
    subst hw
    clear HW
    by_cases hii : i < L.length
    · have hik : (i : Int) < (L.length : Int) := by omega
      have hat := HR3.out.at_ (by omega)
      subst hat
      obtain ⟨q0, q1, q2, q3, q4⟩ := HR3.out.eight0 hii
      by_cases hg : (L[i]).bdg = g
      · have bq : ((L[i]).bdg == g) = true := by simpa using hg
        have HE : Hid (naE g L = 0) := by show _ = _; unfold naE; rw [(fnd_take hii HH.out hg).2]; rfl
        have HRN := hide (rnw_set (T := T) HRI.out hii hg)
        have hs := World.ownsRow.stored HO3.out (i * 5 + 4) (.int .i64 T)
        rw [lcs_left T L i hii, ← HRN.out] at hs
        obtain ⟨hs1, hs2⟩ := hs
        have hs3 : (wr.setCell ⟨ab3, i * 5 + 4, none⟩ (.int .i64 T)).ownsRow w.heap.size 54 5 (.slice (some ⟨ab3, 0, none⟩) (rnw T g L).length cap3) (rnw T g L).length (lcs (rnw T g L)) := by rw [rnw_len]; exact hs1
        obtain ⟨ab4, hR4, hab4, hcc4⟩ := Rs.own hs3
        have hb4 : Below w.heap.size w (wr.setCell ⟨ab3, i * 5 + 4, none⟩ (.int .i64 T)) := HB3.out.setCell (p := ⟨ab3, i * 5 + 4, none⟩) ((HO3.out.lt ab3 rfl).1) _
        have HS := hide (HX.out.set (cap' := cap3) hb4 hR4 hab4 hcc4)
        have hfz0 := World.ownsRow.frozenAt HO3.out (i * 5 + 4)
        have d0 := (HX.out.below HB3.out).c0
        have hne : x ≠ ab3 := fun e => by have := (HO3.out.lt ab3 rfl).1; omega
        have hfz : (wr.setCell ⟨ab3, i * 5 + 4, none⟩ (.int .i64 T)).frozen? ⟨x, 1, none⟩ = false := by have := (HX.out.below hb4).blk; simp [World.frozen?, this]
        have d2 : (wr.setCell ⟨ab3, i * 5 + 4, none⟩ (.int .i64 T)).cell? ⟨x, 1, none⟩ = some (.slice ad L.length cap) := (HX.out.below hb4).c1
        rw [rnw_len] at HS
        clear hs1 hs2 hs3 hR4 hab4 hcc4 hb4 hg
        generalize L[i] = y at *
        go_wp2_with fail
        go_ret
        rw [HE.out]
        exact ⟨rfl, ⟨_, ab4, cap3, HS.out.1⟩, HS.out.2⟩
      · have bq : ((L[i]).bdg == g) = false := by simpa using hg
        have HH2 : Hid (has g (L.take (i + 1)) = false) := by
          show _ = _
          rw [List.take_succ_eq_append_getElem hii]
          unfold has
          rw [List.any_append, List.any_cons, List.any_nil, Bool.or_false, bq, Bool.or_false]
          exact HH.out
        generalize L[i] = y at *
        clear hg
        go_wp2_with fail
        go_roundw
        case rel => exact ⟨i + 1, by omega, by go_num, trivial, HH2⟩
        case measure => simp only [intOf]; omega
    · have hik : ¬ (i : Int) < (L.length : Int) := by omega
      have hh : has g L = false := by have := HH.out; rwa [List.take_of_length_le (by omega)] at this
      have HE : Hid (naE g L = 122) := by show _ = _; unfold naE; rw [hh]; rfl
      have HRN := hide (rnw_none (T := T) hh)
      clear hh
      go_wp2_with fail
      go_ret
      rw [HE.out, HRN.out]
      exact ⟨rfl, ⟨ad, ab, cap, HX.out.below HB3.out⟩, grown_any HB3.out _⟩
end Go.Proofs.Ytjpcghkdedldiaa
