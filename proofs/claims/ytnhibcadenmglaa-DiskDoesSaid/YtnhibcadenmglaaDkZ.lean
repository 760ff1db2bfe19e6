import Derived.Test.YtnhibcadenmglaaDkZa
namespace Go.Proofs.Ytnhibcadenmglaa
open Go.RowKit

theorem lays_128 {l : List ByteArray} (h : A128 l) {R : List Wr} (hs : secsOk l.length R = true) (hd : dataOk R = true) : A128 (lays l R) := by
  induction R generalizing l with
  | nil => exact h
  | cons r R ih =>
    unfold secsOk at hs
    unfold dataOk at hd
    rw [List.all_cons, Bool.and_eq_true] at hs hd
    have h1 : 0 ≤ r.sec ∧ r.sec < (l.length : Int) := by simpa using hs.1
    have h2 : r.data.size = 128 := by simpa using hd.1
    refine ih (l := layS l r.sec.toNat r.data) (layS_128 h (by omega) (by omega)) ?_ hd.2
    rw [layS_len]
    exact hs.2
theorem all_take {α : Type} {f : α → Bool} {R : List α} (h : R.all f = true) (i : Nat) : (R.take i).all f = true := List.all_eq_true.2 fun x hx => List.all_eq_true.1 h x (List.mem_of_mem_take hx)
theorem layS_whole {S : List ByteArray} (h : A128 S) {k : Nat} (hk : k < S.length) {d : ByteArray} (hd : d.size = 128) : layS S k d = S.set k d := by
  unfold layS
  rw [List.getD_eq_getElem?_getD, List.getElem?_eq_getElem hk, Option.getD_some, laid_all (by rw [hd, h.get hk])]

theorem cutS_zero (l : List ByteArray) (R : List Wr) (n : Nat) : cutS l R n 0 = lays l (R.take n) := by
  unfold cutS
  split
  · rw [layS_none _ _ (by rw [ext_size]; omega)]
  · rfl
set_option maxHeartbeats 1000000 in
set_option maxRecDepth 8000 in
theorem rcut_any {w : World} {ad ad2 : Option Addr} {ab ao cap ab2 ao2 cap2 : Nat} {l : List ByteArray} {R : List Wr} {n b : Int} (h : Rs w ad ab ao l) (h2 : Rw w ad2 ab2 ao2 R) (hl : l.length ≤ 8796093021952) (hR : R.length ≤ 5864062014634) :
    Calls Try.prog 17 #[.slice ad l.length cap, .slice ad2 R.length cap2, .int .i64 n, .int .i64 b] w fun e w' => (cutE l R n b ≠ 0 → e = .returned (.tuple #[.slice none 0 0, .int .i64 (cutE l R n b)])) ∧ (cutE l R n b = 0 → ∃ ad' cap' ab', e = .returned (.tuple #[.slice ad' l.length cap', .int .i64 0]) ∧ Rs w' ad' ab' 0 (cutS l R n.toNat b.toNat) ∧ w.heap.size ≤ ab') ∧ Below w.heap.size w w' := by
  obtain ⟨iS, hiS, zS0, zS1, zS2⟩ := info_parts Try.infoS
  obtain ⟨E, hE⟩ : ∃ E, cutE l R n b = E := ⟨_, rfl⟩
  rw [hE]
  have HE := hide hE
  clear hE
  have H := hide h
  have H2 := hide h2
  clear h h2
  by_cases h1 : 1 ≤ l.length ∧ l.length ≤ 1026
  · obtain ⟨hp, hq⟩ := h1
    have a0 : ¬ l.length < 1 := by omega
    have a1 : ¬ 1026 < l.length := by omega
    have a2 : decide ((l.length : Int) < 1) = false := by simp; omega
    have a3 : decide ((1026 : Int) < (l.length : Int)) = false := by simp; omega
    go_enter Try.func17, Try.ntmps17
    go_wp2_with fail
    go_loopw [10] (fun u wr => ∃ i : Nat, u = .int .i64 (i : Int) ∧ i ≤ R.length ∧ wr = w ∧ Hid (secsOk l.length R = secsOk l.length (R.drop i))) (fun u _ => (R.length - (intOf u).toNat))
    case atStart => exact ⟨0, rfl, Nat.zero_le _, rfl, rfl⟩
    case round =>
      obtain ⟨i, rfl, hi, e, HA⟩ := hrel
      have e' := e.symm; subst e'; clear e
      by_cases hil : i < R.length
      · have c0 := H2.out.sec i hil
        have ea := H2.out.at_ (by omega)
        have hd : R.drop i = R[i] :: R.drop (i + 1) := List.drop_eq_getElem_cons hil
        have hA2 : secsOk l.length (R.drop i) = (decide (0 ≤ R[i].sec ∧ R[i].sec < (l.length : Int)) && secsOk l.length (R.drop (i + 1))) := by rw [hd]; rfl
        have HA2 := hide hA2
        generalize R[i].sec = x at *
        subst ea
        clear hd hA2
        by_cases hx0 : x < 0
        · have d0 : decide (x < 0) = true := by simpa using hx0
          have HA3 : Hid (E = 40) := show _ = _ by
            rw [← HE.out]; unfold cutE; rw [if_neg (by omega), if_pos (by rw [HA.out, HA2.out]; simp; omega)]
          clear HA HA2 HE
          go_wp2_with fail
          go_ret2
          exact ⟨fun _ => by rw [HA3.out]; rfl, fun h0 => absurd h0 (by rw [HA3.out]; decide), Below.refl _ _⟩
        · have d0 : decide (x < 0) = false := by simpa using hx0
          by_cases hx1 : (l.length : Int) ≤ x
          · have d1 : decide ((l.length : Int) ≤ x) = true := by simpa using hx1
            have HA3 : Hid (E = 40) := show _ = _ by
              rw [← HE.out]; unfold cutE; rw [if_neg (by omega), if_pos (by rw [HA.out, HA2.out]; simp; omega)]
            clear HA HA2 HE
            go_wp2_with fail
            go_ret2
            exact ⟨fun _ => by rw [HA3.out]; rfl, fun h0 => absurd h0 (by rw [HA3.out]; decide), Below.refl _ _⟩
          · have d1 : decide ((l.length : Int) ≤ x) = false := by simpa using hx1
            have HA3 : Hid (secsOk l.length R = secsOk l.length (R.drop (i + 1))) := show _ = _ by rw [HA.out, HA2.out]; simp; omega
            clear HA HA2
            go_wp2_with fail
            exact ⟨⟨i + 1, by go_num, by omega, by trivial, HA3⟩, by simp [intOf]; omega⟩
      · have ei : R.length = i := by omega
        subst ei
        have HA3 : Hid (secsOk l.length R = true) := show _ = _ by rw [HA.out, List.drop_length]; rfl
        clear HA hi hil
        have HF := hide (fits_any (cap := cap) H.out hl)
        have hfe : loadE l = if all8 l = true then 0 else 41 := by unfold loadE; rw [if_neg (by omega)]
        rw [hfe] at HF
        cases h8 : all8 l
        · rw [h8, if_neg (by decide)] at HF
          have HX : Hid (E = 41) := show _ = _ by
            rw [← HE.out]; unfold cutE; rw [if_neg (by omega), HA3.out, if_neg (by decide), if_pos h8]
          clear HA3 HE hfe h8
          go_wp2_with (first | (go_at_call 36; refine HF.out.mono ?_; rintro e w1 ⟨rfl, e1⟩; have e1' := e1.symm; subst e1'; clear e1))
          go_ret2
          exact ⟨fun _ => by rw [HX.out]; rfl, fun h0 => absurd h0 (by rw [HX.out]; decide), Below.refl _ _⟩
        · rw [h8, if_pos rfl] at HF
          have HA8 := hide h8
          clear hfe h8
          go_wp2_with (first | (go_at_call 36; refine HF.out.mono ?_; rintro e w1 ⟨rfl, e1⟩; have e1' := e1.symm; subst e1'; clear e1))
          go_loopw [12] (fun u wr => ∃ i : Nat, u = .int .i64 (i : Int) ∧ i ≤ R.length ∧ wr = w ∧ Hid (dataOk R = dataOk (R.drop i))) (fun u _ => (R.length - (intOf u).toNat))
          case atStart => exact ⟨0, rfl, Nat.zero_le _, rfl, rfl⟩
          case round =>
            clear HF
            obtain ⟨i, rfl, hi, e, HA⟩ := hrel
            have e' := e.symm; subst e'; clear e
            by_cases hil : i < R.length
            · have c1 := H2.out.data i hil
              have ea := H2.out.at_ (by omega)
              have hd : R.drop i = R[i] :: R.drop (i + 1) := List.drop_eq_getElem_cons hil
              have hA2 : dataOk (R.drop i) = ((R[i].data.size == 128) && dataOk (R.drop (i + 1))) := by rw [hd]; rfl
              have HA2 := hide hA2
              generalize R[i].data = y at *
              subst ea
              clear hd hA2
              by_cases hy : y.size = 128
              · have HA4 : Hid (dataOk R = dataOk (R.drop (i + 1))) := show _ = _ by rw [HA.out, HA2.out, hy]; rfl
                clear HA HA2
                go_wp2_with fail
                exact ⟨⟨i + 1, by go_num, by omega, by trivial, HA4⟩, by simp [intOf]; omega⟩
              · have HX : Hid (E = 41) := show _ = _ by
                  rw [← HE.out]; unfold cutE; rw [if_neg (by omega), HA3.out, if_neg (by decide), HA8.out, if_neg (by decide), if_pos (by rw [HA.out, HA2.out]; simp [hy])]
                have d0 : ((y.size : Int) == 128) = false := by simp; omega
                clear HA HA2 HE HA3 HA8
                go_wp2_with fail
                go_ret2
                exact ⟨fun _ => by rw [HX.out]; rfl, fun h0 => absurd h0 (by rw [HX.out]; decide), Below.refl _ _⟩
            · have ei : R.length = i := by omega
              subst ei
              have HA4 : Hid (dataOk R = true) := show _ = _ by rw [HA.out, List.drop_length]; rfl
              clear HA hi hil
              have HX : Hid (∀ v : Int, (if cutN R.length n b then (42 : Int) else 0) = v → E = v) := fun v hv => by rw [← HE.out]; unfold cutE; rw [if_neg (by omega), HA3.out, HA8.out, HA4.out, if_neg (by decide), if_neg (by decide), if_neg (by decide)]; exact hv
              clear HE
              by_cases h0 : n < 0
              · have d0 : decide (n < 0) = true := by simpa using h0
                have HV := hide (HX.out 42 (if_pos (by unfold cutN; omega)))
                clear HX
                go_wp2_with fail
                go_ret2
                exact ⟨fun _ => by rw [HV.out]; rfl, fun h0 => absurd h0 (by rw [HV.out]; decide), Below.refl _ _⟩
              · have d0 : decide (n < 0) = false := by simpa using h0
                by_cases h1 : (R.length : Int) < n
                · have d1 : decide ((R.length : Int) < n) = true := by simpa using h1
                  have HV := hide (HX.out 42 (if_pos (by unfold cutN; omega)))
                  clear HX
                  go_wp2_with fail
                  go_ret2
                  exact ⟨fun _ => by rw [HV.out]; rfl, fun h0 => absurd h0 (by rw [HV.out]; decide), Below.refl _ _⟩
                · have d1 : decide ((R.length : Int) < n) = false := by simpa using h1
                  by_cases h2 : b < 0
                  · have d2 : decide (b < 0) = true := by simpa using h2
                    have HV := hide (HX.out 42 (if_pos (by unfold cutN; omega)))
                    clear HX
                    go_wp2_with fail
                    go_ret2
                    exact ⟨fun _ => by rw [HV.out]; rfl, fun h0 => absurd h0 (by rw [HV.out]; decide), Below.refl _ _⟩
                  · have d2 : decide (b < 0) = false := by simpa using h2
                    by_cases h3 : 128 < b
                    · have d3 : decide (128 < b) = true := by simpa using h3
                      have HV := hide (HX.out 42 (if_pos (by unfold cutN; omega)))
                      clear HX
                      go_wp2_with fail
                      go_ret2
                      exact ⟨fun _ => by rw [HV.out]; rfl, fun h0 => absurd h0 (by rw [HV.out]; decide), Below.refl _ _⟩
                    · have d3 : decide (128 < b) = false := by simpa using h3
                      obtain ⟨p, rfl⟩ : ∃ p : Nat, n = (p : Int) := ⟨n.toNat, by omega⟩
                      obtain ⟨q, rfl⟩ : ∃ q : Nat, b = (q : Int) := ⟨b.toNat, by omega⟩
                      clear h0 h2 d0 d2
                      by_cases h4 : p = R.length
                      · by_cases h5 : q = 0
                        · have d4 : ((p : Int) == (R.length : Int)) = true := by simp; omega
                          have d5 : ((q : Int) != 0) = false := by simp; exact h5
                          have h6 : p ≤ R.length := by omega
                          have h7 : p = R.length → q = 0 := fun _ => h5
                          have H7 := hide h7
                          have HV := hide (HX.out 0 (if_neg (by unfold cutN; omega)))
                          clear HX h4 h5 h7
                          go_upto_region 19 with (at_builtin; refine wpList_append_read rfl _ _ 35 rfl w.heap.size 9 iS (.string ByteArray.empty) 1 16 Try.underlying35 hiS zS0 zS1 zS2 rfl (by decide) (.slice (some ⟨w.heap.size, 0, none⟩) 0 0) 0 [] rfl (World.ownsRow_made w #[] 0 (Nat.le_refl _) (by decide) rfl) ad l.length cap (l.map .string) rfl (by rw [List.length_map, Nat.mul_one]) H.out.none (fun a0 ha j u hu => Lib.cell?_alloc_some _ (H.out.src a0 ha j u hu)) (strs_one _) (by unfold maxLen; omega) (by omega) (by rw [World.size_alloc]; omega) ?_; intro v7 w7 hown7 hgrow7)
                          rw [Nat.zero_add, List.nil_append] at hown7
                          have hb7 : Below w.heap.size w w7 := ((Below.refl _ w).alloc (Nat.le_refl _) _).grown hgrow7 (by rw [World.size_alloc]; omega) (fun k hk => by simp only [Value.ownBlock] at hk; injection hk with hk; omega)
                          obtain ⟨g, c7, rfl, hgl⟩ : ∃ g c, v7 = .slice (some ⟨g, 0, none⟩) l.length c ∧ w.heap.size ≤ g := by
                            rcases own_form hown7 with ⟨_, h0⟩ | ⟨g, c, rfl, _⟩
                            · omega
                            · exact ⟨g, c, rfl, (hown7.lt g rfl).1⟩
                          have HO7 := hide hown7
                          have HB7 := hide hb7
                          have HGL := hide hgl
                          clear hown7 hgrow7 hb7 hgl
                          go_wp2_with fail
                          go_loopw [14] (fun u wr => ∃ i : Nat, u = .int .i64 (i : Int) ∧ i ≤ p ∧ Hid (wr.ownsRow w.heap.size 9 1 (.slice (some ⟨g, 0, none⟩) l.length c7) l.length ((lays l (R.take i)).map .string)) ∧ Hid (Below w.heap.size w wr)) (fun u _ => (p - (intOf u).toNat))
                          case atStart => exact ⟨0, rfl, Nat.zero_le _, HO7, HB7⟩
                          case round =>
                            clear HO7 HB7
                            obtain ⟨i, rfl, hi, HO, HB⟩ := hrel
                            have h8i : A128 (lays l (R.take i)) := lays_128 (all8_A HA8.out) (all_take HA3.out i) (all_take HA4.out i)
                            have H8 := hide h8i
                            clear h8i
                            by_cases hil : i < p
                            · have hiR : i < R.length := by omega
                              have O := H2.out.below HB.out
                              have c0 := O.sec i hiR
                              have c1 := O.data i hiR
                              have ea := O.at_ (by omega)
                              have hsx := secs_get HA3.out hiR
                              have hdx := data_get HA4.out hiR
                              have ht := lays_take hiR l
                              have hab2 := O.lt (by omega)
                              have hab2' := H2.out.lt (by omega)
                              generalize R[i] = r at *
                              obtain ⟨x, y⟩ := r
                              simp only at c0 c1 hsx hdx ht
                              obtain ⟨k, rfl⟩ : ∃ k : Nat, x = (k : Int) := ⟨x.toNat, by omega⟩
                              subst ea
                              have hk : k < l.length := by omega
                              rw [Int.toNat_natCast, layS_whole H8.out (by rw [lays_len]; exact hk) hdx] at ht
                              have hown := HO.out
                              have hst := (hown.stored k (.string y)).1
                              rw [map_set_str, ← ht] at hst
                              have e1 := hown.cellAt k (by omega)
                              have hln := lays_len l (R.take i)
                              rw [List.getElem?_eq_getElem (by rw [List.length_map, hln]; exact hk)] at e1
                              obtain ⟨ya, e1'⟩ : ∃ z, wr.cell? ⟨g, k, none⟩ = some z := ⟨_, e1⟩
                              have e2 := hown.frozenAt k
                              have HST : Hid (((wr.setCell ⟨g, k, none⟩ (.string y)).drew).ownsRow w.heap.size 9 1 (.slice (some ⟨g, 0, none⟩) l.length c7) l.length ((lays l (R.take (i + 1))).map .string)) := hst
                              have hB' : Below w.heap.size w (wr.setCell ⟨g, k, none⟩ (.string y)) := HB.out.setCell HGL.out _
                              have HB' : Hid (Below w.heap.size w (wr.setCell ⟨g, k, none⟩ (.string y)).drew) := ⟨hB'.os, hB'.tape, hB'.output, hB'.size, hB'.block⟩
                              have hne : ab2 ≠ g := by have := HGL.out; omega
                              have hne' : g ≠ ab2 := by have := HGL.out; omega
                              have hkI : (k : Int) < (l.length : Int) := by omega
                              clear O hsx hdx ht hown hst e1 hln hB'
                              go_wp2_with fail
                              go_region_held3 (fun w' => w'.cell? ⟨ab2, ao2 + i * 2, none⟩ = some (.int .i64 (k : Int)) ∧ w'.cell? ⟨ab2, ao2 + i * 2 + 1, none⟩ = some (.string y)) (go_keep) (fail)
                              go_wp2_with fail
                              exact ⟨⟨i + 1, by go_num, by omega, HST, HB'⟩, by simp [intOf]; omega⟩
                            · have ei : p = i := by omega
                              subst ei
                              clear hi hil
                              obtain ⟨abo, hro⟩ := (Rs.own HO.out).2
                              have HRO := hide hro
                              have HAO : Hid (w.heap.size ≤ abo) := show _ ≤ _ by
                                have eb := hro.at_ (by rw [lays_len]; omega)
                                injection eb with eb
                                injection eb with eb
                                rw [← eb]; exact HGL.out
                              clear hro
                              by_cases hq0 : q = 0
                              · have d9 : decide (0 < (q : Int)) = false := by simp; omega
                                have d10 : ¬ 0 < q := by omega
                                have HCS : Hid (Rs wr (some ⟨g, 0, none⟩) abo 0 (cutS l R (p : Int).toNat (q : Int).toNat)) := show Rs _ _ _ _ _ by rw [Int.toNat_natCast, Int.toNat_natCast, hq0, cutS_zero]; exact HRO.out
                                clear hq0
                                go_wp2_with fail
                                go_ret2
                                exact ⟨fun h0 => absurd HV.out h0, fun _ => ⟨_, _, _, rfl, HCS.out, HAO.out⟩, HB.out⟩
                              · have hpR : p < R.length := by first | omega | (have := H7.out; omega)
                                have O := H2.out.below HB.out
                                have c0 := O.sec p hpR
                                have c1 := O.data p hpR
                                have ea := O.at_ (by omega)
                                have hsx := secs_get HA3.out hpR
                                have hdx := data_get HA4.out hpR
                                have hcs : cutS l R p q = layS (lays l (R.take p)) R[p].sec.toNat (R[p].data.extract 0 q) := by unfold cutS; rw [List.getElem?_eq_getElem hpR]
                                have KC : Hid (∀ w3, Below w.heap.size w w3 → w3.cell? ⟨ab2, ao2 + p * 2, none⟩ = some (.int .i64 R[p].sec) ∧ w3.cell? ⟨ab2, ao2 + p * 2 + 1, none⟩ = some (.string R[p].data)) := fun w3 hb => ⟨(H2.out.below hb).sec p hpR, (H2.out.below hb).data p hpR⟩
                                generalize R[p] = r at *
                                obtain ⟨x, y⟩ := r
                                simp only at c0 c1 hsx hdx hcs KC
                                subst ea
                                have hlc := laid_any (cap := c7) (HRO.out.keep (w' := wr.drew) (fun _ => rfl)) H8.out (by rw [lays_len]; exact hl) (by rw [lays_len]; exact hsx) hdx (b := q) (by omega)
                                rw [← hcs, lays_len] at hlc
                                have HLC := hide hlc
                                have HCS : Hid (∀ w' ad' ab', Rs w' ad' ab' 0 (cutS l R p q) → Rs w' ad' ab' 0 (cutS l R (p : Int).toNat (q : Int).toNat)) := fun w' ad' ab' h => by rw [Int.toNat_natCast, Int.toNat_natCast]; exact h
                                have d9 : decide (0 < (q : Int)) = true := by simp; omega
                                have d10 : 0 < q := by omega
                                clear O hsx hdx hcs hlc
                                go_wp2_with fail
                                go_region_held3 (fun w' => w'.cell? ⟨ab2, ao2 + p * 2, none⟩ = some (.int .i64 x) ∧ w'.cell? ⟨ab2, ao2 + p * 2 + 1, none⟩ = some (.string y)) (go_keep) (first
                                  | (go_at_call 39; refine HLC.out.mono ?_; rintro e w8 ⟨ad8, cap8, ab8, rfl, hr8, hab8, hb8⟩; have HR8 := hide hr8; have HAB8 := hide hab8; have HB8 := hide (HB.out.trans (below_up (below_drew hb8) HB.out.size)); obtain ⟨k0, k1⟩ := KC.out w8 HB8.out; clear hr8 hab8 hb8))
                                go_wp2_with fail
                                go_ret2
                                exact ⟨fun h0 => absurd HV.out h0, fun _ => ⟨_, _, _, rfl, HCS.out _ _ _ HR8.out, Nat.le_trans HB.out.size HAB8.out⟩, HB8.out⟩
                        · have d4 : ((p : Int) == (R.length : Int)) = true := by simp; omega
                          have d5 : ((q : Int) != 0) = true := by simp; exact h5
                          have HV := hide (HX.out 42 (if_pos (by unfold cutN; omega)))
                          clear HX h4
                          go_wp2_with fail
                          go_ret2
                          exact ⟨fun _ => by rw [HV.out]; rfl, fun h0 => absurd h0 (by rw [HV.out]; decide), Below.refl _ _⟩
                      · have d4 : ((p : Int) == (R.length : Int)) = false := by simp; omega
                        have h6 : p < R.length := by omega
                        have HV := hide (HX.out 0 (if_neg (by unfold cutN; omega)))
                        clear HX
                        go_upto_region 19 with (at_builtin; refine wpList_append_read rfl _ _ 35 rfl w.heap.size 9 iS (.string ByteArray.empty) 1 16 Try.underlying35 hiS zS0 zS1 zS2 rfl (by decide) (.slice (some ⟨w.heap.size, 0, none⟩) 0 0) 0 [] rfl (World.ownsRow_made w #[] 0 (Nat.le_refl _) (by decide) rfl) ad l.length cap (l.map .string) rfl (by rw [List.length_map, Nat.mul_one]) H.out.none (fun a0 ha j u hu => Lib.cell?_alloc_some _ (H.out.src a0 ha j u hu)) (strs_one _) (by unfold maxLen; omega) (by omega) (by rw [World.size_alloc]; omega) ?_; intro v7 w7 hown7 hgrow7)
                        rw [Nat.zero_add, List.nil_append] at hown7
                        have hb7 : Below w.heap.size w w7 := ((Below.refl _ w).alloc (Nat.le_refl _) _).grown hgrow7 (by rw [World.size_alloc]; omega) (fun k hk => by simp only [Value.ownBlock] at hk; injection hk with hk; omega)
                        obtain ⟨g, c7, rfl, hgl⟩ : ∃ g c, v7 = .slice (some ⟨g, 0, none⟩) l.length c ∧ w.heap.size ≤ g := by
                          rcases own_form hown7 with ⟨_, h0⟩ | ⟨g, c, rfl, _⟩
                          · omega
                          · exact ⟨g, c, rfl, (hown7.lt g rfl).1⟩
                        have HO7 := hide hown7
                        have HB7 := hide hb7
                        have HGL := hide hgl
                        clear hown7 hgrow7 hb7 hgl
                        go_wp2_with fail
                        go_loopw [14] (fun u wr => ∃ i : Nat, u = .int .i64 (i : Int) ∧ i ≤ p ∧ Hid (wr.ownsRow w.heap.size 9 1 (.slice (some ⟨g, 0, none⟩) l.length c7) l.length ((lays l (R.take i)).map .string)) ∧ Hid (Below w.heap.size w wr)) (fun u _ => (p - (intOf u).toNat))
                        case atStart => exact ⟨0, rfl, Nat.zero_le _, HO7, HB7⟩
                        case round =>
                          clear HO7 HB7
                          obtain ⟨i, rfl, hi, HO, HB⟩ := hrel
                          have h8i : A128 (lays l (R.take i)) := lays_128 (all8_A HA8.out) (all_take HA3.out i) (all_take HA4.out i)
                          have H8 := hide h8i
                          clear h8i
                          by_cases hil : i < p
                          · have hiR : i < R.length := by omega
                            have O := H2.out.below HB.out
                            have c0 := O.sec i hiR
                            have c1 := O.data i hiR
                            have ea := O.at_ (by omega)
                            have hsx := secs_get HA3.out hiR
                            have hdx := data_get HA4.out hiR
                            have ht := lays_take hiR l
                            have hab2 := O.lt (by omega)
                            have hab2' := H2.out.lt (by omega)
                            generalize R[i] = r at *
                            obtain ⟨x, y⟩ := r
                            simp only at c0 c1 hsx hdx ht
                            obtain ⟨k, rfl⟩ : ∃ k : Nat, x = (k : Int) := ⟨x.toNat, by omega⟩
                            subst ea
                            have hk : k < l.length := by omega
                            rw [Int.toNat_natCast, layS_whole H8.out (by rw [lays_len]; exact hk) hdx] at ht
                            have hown := HO.out
                            have hst := (hown.stored k (.string y)).1
                            rw [map_set_str, ← ht] at hst
                            have e1 := hown.cellAt k (by omega)
                            have hln := lays_len l (R.take i)
                            rw [List.getElem?_eq_getElem (by rw [List.length_map, hln]; exact hk)] at e1
                            obtain ⟨ya, e1'⟩ : ∃ z, wr.cell? ⟨g, k, none⟩ = some z := ⟨_, e1⟩
                            have e2 := hown.frozenAt k
                            have HST : Hid (((wr.setCell ⟨g, k, none⟩ (.string y)).drew).ownsRow w.heap.size 9 1 (.slice (some ⟨g, 0, none⟩) l.length c7) l.length ((lays l (R.take (i + 1))).map .string)) := hst
                            have hB' : Below w.heap.size w (wr.setCell ⟨g, k, none⟩ (.string y)) := HB.out.setCell HGL.out _
                            have HB' : Hid (Below w.heap.size w (wr.setCell ⟨g, k, none⟩ (.string y)).drew) := ⟨hB'.os, hB'.tape, hB'.output, hB'.size, hB'.block⟩
                            have hne : ab2 ≠ g := by have := HGL.out; omega
                            have hne' : g ≠ ab2 := by have := HGL.out; omega
                            have hkI : (k : Int) < (l.length : Int) := by omega
                            clear O hsx hdx ht hown hst e1 hln hB'
                            go_wp2_with fail
                            go_region_held3 (fun w' => w'.cell? ⟨ab2, ao2 + i * 2, none⟩ = some (.int .i64 (k : Int)) ∧ w'.cell? ⟨ab2, ao2 + i * 2 + 1, none⟩ = some (.string y)) (go_keep) (fail)
                            go_wp2_with fail
                            exact ⟨⟨i + 1, by go_num, by omega, HST, HB'⟩, by simp [intOf]; omega⟩
                          · have ei : p = i := by omega
                            subst ei
                            clear hi hil
                            obtain ⟨abo, hro⟩ := (Rs.own HO.out).2
                            have HRO := hide hro
                            have HAO : Hid (w.heap.size ≤ abo) := show _ ≤ _ by
                              have eb := hro.at_ (by rw [lays_len]; omega)
                              injection eb with eb
                              injection eb with eb
                              rw [← eb]; exact HGL.out
                            clear hro
                            by_cases hq0 : q = 0
                            · have d9 : decide (0 < (q : Int)) = false := by simp; omega
                              have d10 : ¬ 0 < q := by omega
                              have HCS : Hid (Rs wr (some ⟨g, 0, none⟩) abo 0 (cutS l R (p : Int).toNat (q : Int).toNat)) := show Rs _ _ _ _ _ by rw [Int.toNat_natCast, Int.toNat_natCast, hq0, cutS_zero]; exact HRO.out
                              clear hq0
                              go_wp2_with fail
                              go_ret2
                              exact ⟨fun h0 => absurd HV.out h0, fun _ => ⟨_, _, _, rfl, HCS.out, HAO.out⟩, HB.out⟩
                            · have hpR : p < R.length := by first | omega | (have := H7.out; omega)
                              have O := H2.out.below HB.out
                              have c0 := O.sec p hpR
                              have c1 := O.data p hpR
                              have ea := O.at_ (by omega)
                              have hsx := secs_get HA3.out hpR
                              have hdx := data_get HA4.out hpR
                              have hcs : cutS l R p q = layS (lays l (R.take p)) R[p].sec.toNat (R[p].data.extract 0 q) := by unfold cutS; rw [List.getElem?_eq_getElem hpR]
                              have KC : Hid (∀ w3, Below w.heap.size w w3 → w3.cell? ⟨ab2, ao2 + p * 2, none⟩ = some (.int .i64 R[p].sec) ∧ w3.cell? ⟨ab2, ao2 + p * 2 + 1, none⟩ = some (.string R[p].data)) := fun w3 hb => ⟨(H2.out.below hb).sec p hpR, (H2.out.below hb).data p hpR⟩
                              generalize R[p] = r at *
                              obtain ⟨x, y⟩ := r
                              simp only at c0 c1 hsx hdx hcs KC
                              subst ea
                              have hlc := laid_any (cap := c7) (HRO.out.keep (w' := wr.drew) (fun _ => rfl)) H8.out (by rw [lays_len]; exact hl) (by rw [lays_len]; exact hsx) hdx (b := q) (by omega)
                              rw [← hcs, lays_len] at hlc
                              have HLC := hide hlc
                              have HCS : Hid (∀ w' ad' ab', Rs w' ad' ab' 0 (cutS l R p q) → Rs w' ad' ab' 0 (cutS l R (p : Int).toNat (q : Int).toNat)) := fun w' ad' ab' h => by rw [Int.toNat_natCast, Int.toNat_natCast]; exact h
                              have d9 : decide (0 < (q : Int)) = true := by simp; omega
                              have d10 : 0 < q := by omega
                              clear O hsx hdx hcs hlc
                              go_wp2_with fail
                              go_region_held3 (fun w' => w'.cell? ⟨ab2, ao2 + p * 2, none⟩ = some (.int .i64 x) ∧ w'.cell? ⟨ab2, ao2 + p * 2 + 1, none⟩ = some (.string y)) (go_keep) (first
                                | (go_at_call 39; refine HLC.out.mono ?_; rintro e w8 ⟨ad8, cap8, ab8, rfl, hr8, hab8, hb8⟩; have HR8 := hide hr8; have HAB8 := hide hab8; have HB8 := hide (HB.out.trans (below_up (below_drew hb8) HB.out.size)); obtain ⟨k0, k1⟩ := KC.out w8 HB8.out; clear hr8 hab8 hb8))
                              go_wp2_with fail
                              go_ret2
                              exact ⟨fun h0 => absurd HV.out h0, fun _ => ⟨_, _, _, rfl, HCS.out _ _ _ HR8.out, Nat.le_trans HB.out.size HAB8.out⟩, HB8.out⟩
  · have HX : Hid (E = 40) := show _ = _ by rw [← HE.out]; unfold cutE; rw [if_pos h1]
    clear HE
    by_cases hp : 1 ≤ l.length
    · have a0 : ¬ l.length < 1 := by omega
      have a1 : 1026 < l.length := by omega
      have a2 : decide ((l.length : Int) < 1) = false := by simp; omega
      have a3 : decide ((1026 : Int) < (l.length : Int)) = true := by simp; omega
      clear h1
      go_enter Try.func17, Try.ntmps17
      go_wp2_with fail
      go_ret2
      exact ⟨fun _ => by rw [HX.out]; rfl, fun h0 => absurd h0 (by rw [HX.out]; decide), Below.refl _ _⟩
    · have a0 : l.length < 1 := by omega
      have a2 : decide ((l.length : Int) < 1) = true := by simp; omega
      clear h1
      go_enter Try.func17, Try.ntmps17
      go_wp2_with fail
      go_ret2
      exact ⟨fun _ => by rw [HX.out]; rfl, fun h0 => absurd h0 (by rw [HX.out]; decide), Below.refl _ _⟩
end Go.Proofs.Ytnhibcadenmglaa
