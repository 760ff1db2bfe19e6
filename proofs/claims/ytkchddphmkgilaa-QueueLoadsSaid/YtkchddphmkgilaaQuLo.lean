import Derived.Test.YtkchddphmkgilaaQuLa
namespace Go.Proofs.Ytkchddphmkgilaa
open Go.RowKit

/-- the row that says "nothing of mine" -/
abbrev r7 : Rr := ⟨-7, 0, 0, 0, 0, 0, 0, 0⟩
abbrev r8 : Rr := ⟨-8, 0, 0, 0, 0, 0, 0, 0⟩
theorem Rs.pre {w : World} {ad : Option Addr} {ab ao : Nat} {L M : List Rr} (h : Rs w ad ab ao (L ++ M)) : Rs w ad ab ao L :=
  ⟨fun h0 => h.at_ (by rw [List.length_append]; omega), fun i hi k hk => by
    have := h.c i (by rw [List.length_append]; omega) k hk
    rw [List.getElem_append_left hi] at this
    exact this⟩
theorem Pr.ex {B : Nat} {m : Int} {w w' : World} {b : Nat} {v : Value} {x : Nat} {ad : Option Addr} {ab cap : Nat} {L : List Rr} {G : Nat} (h : Pr B m w b v x ad ab cap L) (he : Ex G w w') (h1 : ¬ Ft b v G) (h2 : x ≠ G) (h3 : ab ≠ G) : Pr B m w' b v x ad ab cap L :=
  ⟨h.q.keep fun k hk => he.block k (h.q.ftlt k hk).2 (fun e => h1 (by rw [← e]; exact hk)), h.x.keep (he.block _ h.x.lt h2) (fun h0 => he.block _ (h.x.rs.lt h0) h3), h.ok, h.ap⟩
theorem Ex.bel {w0 w w' : World} {G : Nat} (h : Below w0.heap.size w0 w) (he : Ex G w w') (hG : w0.heap.size ≤ G) : Below w0.heap.size w0 w' := h.trans ⟨he.os, he.tape, he.output, he.size, fun k hk => he.block k (Nat.lt_of_lt_of_le hk h.size) (by omega)⟩
theorem own_cap {w : World} {B g n cap size : Nat} {e : TypeId} {xs : List Value} (h : w.ownsRow B e size (.slice (some ⟨g, 0, none⟩) n cap) n xs) : n ≤ cap ∧ cap ≤ maxLen ∧ B ≤ g ∧ g < w.heap.size := by
  rcases h.2 with ⟨h1, _⟩ | ⟨g', cap', cur, h1, hb, hg, h2, h3, _⟩
  · cases h1
  · injection h1 with h1 _ h4; injection h1 with h1; injection h1 with h1; subst h1; subst h4; exact ⟨h2, h3, hb, lt_of_block hg⟩
theorem last7 {w : World} {g : Nat} {L : List Rr} (h : Rs w (some ⟨g, 0, none⟩) g 0 (L ++ [r7])) : w.cell? ⟨g, L.length * 8, none⟩ = some (.int .i64 (-7)) := by
  have := (h.eight0 (i := L.length) (by simp)).1
  rw [List.getElem_append_right (Nat.le_refl _)] at this
  simpa using this
set_option maxHeartbeats 8000000 in
set_option maxRecDepth 8000 in
theorem queueLoads_walk {w : World} {x : Int} (_ : -9223372036854775808 ≤ x ∧ x ≤ 9223372036854775807) {ad : Option Addr} {ab ao cap : Nat} {L : List Rr} (hL : Rs w ad ab ao L) (hLl : L.length ≤ 2199023255488) (_ : ∀ i (h : i < L.length), -9223372036854775808 ≤ (L[i]).job ∧ (L[i]).job ≤ 9223372036854775807) {ad2 : Option Addr} {ab2 ao2 cap2 : Nat} {Q : List Rr} (hQ : Rs w ad2 ab2 ao2 Q) (hQl : Q.length ≤ 2199023255488) (hj : ∀ i (h : i < Q.length), -9223372036854775808 ≤ (Q[i]).job ∧ (Q[i]).job ≤ 9223372036854775807) :
    Calls Try.prog 3 #[.int .i64 x, .slice ad L.length cap, .slice ad2 Q.length cap2] w fun e w' => e = .returned (.bool true) ∧ Below w.heap.size w w' := by
  obtain ⟨i0, hi0, hz0, hz1, hz2⟩ := info_parts Try.infoR
  have HL := hide hL
  have HS := hide hQ
  have HJ := hide hj
  have hlt := hQ.lt
  have hs1 := World.size_alloc w (.cells #[] 30)
  have HMd : Hid ((w.alloc (.cells #[] 30)).ownsRow w.heap.size 30 8 (.slice (some ⟨w.heap.size, 0, none⟩) 0 0) 0 []) := hide (World.ownsRow_made w #[] 0 (Nat.le_refl _) (by decide) rfl)
  have HSr := hide (fun a0 ha j u hu => Lib.cell?_alloc_some (W := w) (.cells #[] 30) (hL.src a0 ha j u hu))
  have HNo := hide hL.none
  clear hQ hj hL
  go_enter Try.func3, Try.ntmps3
  have HTok : Hid True := trivial
  have mstop : True := trivial
  go_wp2_with (first
    | (guard_hyp HTok : Hid True; at_builtin; refine wpList_append_read rfl _ _ 22 rfl w.heap.size 30 i0 rr0.val 8 64 Try.underlying22 hi0 hz0 hz1 hz2 rfl (by decide) (.slice (some ⟨w.heap.size, 0, none⟩) 0 0) 0 [] rfl HMd.out ad L.length cap (rcs L) rfl (rcs_len L) HNo.out HSr.out (rcs_one_cell L) (by unfold maxLen; omega) (by omega) (by simp) ?_; intro v3 w3 hown3 hgrow3; clear HTok; (rw [Nat.zero_add, List.nil_append] at hown3); (obtain ⟨p3, n3, q3, hv3⟩ := own_any hown3); subst hv3)
    | (guard_hyp mstop : True; at_builtin; refine wpList_append_lies _ rfl _ _ 22 rfl w.heap.size 30 i0 rr0.val 8 64 Try.underlying22 hi0 hz0 hz1 hz2 rfl (by decide) (.slice p3 n3 q3) L.length (rcs L) rfl (own_below hown3 (below_alloc w3 _)) ⟨w3.heap.size, 0, none⟩ 1 1 [.int .i64 (-7), .int .i64 0, .int .i64 0, .int .i64 0, .int .i64 0, .int .i64 0, .int .i64 0, .int .u64 0] rfl rfl (World.news_of_block (cs := #[.int .i64 (-7), .int .i64 0, .int .i64 0, .int .i64 0, .int .i64 0, .int .i64 0, .int .i64 0, .int .u64 0]) (t := 30) (fr := (0, 0)) (heap_alloc_new w3 _)) (by simp [Value.oneCell']) (by decide) (by unfold maxLen; omega) (by omega) (by rw [World.size_alloc]; have := hgrow3.size; omega) (w3.heap.size + 1) (by rw [World.size_alloc]) ?_; intro g cap4 w4 hown4 hgrow4 hat4 hlt4; clear mstop; (have hcp := (own_cap hown4).1); (have hcm := (own_cap hown4).2.1); (have hgl := (own_cap hown4).2.2.1); (have hgs := (own_cap hown4).2.2.2); (have HB4 : Hid (Below w.heap.size w w4) := hide ⟨hgrow4.os.trans hgrow3.os, hgrow4.tape.trans hgrow3.tape, hgrow4.output.trans hgrow3.output, Nat.le_trans (by have := hgrow3.size; have := World.size_alloc w3 (.cells #[.int .i64 (-7), .int .i64 0, .int .i64 0, .int .i64 0, .int .i64 0, .int .i64 0, .int .i64 0, .int .u64 0] 30); omega) hgrow4.size, fun k hk => by (obtain ⟨ob, hob⟩ : ∃ ob, w.heap[k]? = some ob := ⟨w.heap[k], Array.getElem?_eq_getElem hk⟩); rw [hob]; exact sub_x hgrow3 hgrow4 hown3 hob hk hs1⟩); (have HO4 : Hid (w4.ownsRow w.heap.size 30 8 (.slice (some ⟨g, 0, none⟩) (L ++ [r7]).length cap4) (L ++ [r7]).length (rcs (L ++ [r7]))) := hide (by rw [List.length_append, rcs_append, rcs_one]; exact hown4)); clear hown3 hgrow3 hown4 hgrow4 hat4 hlt4 HMd HSr HNo)
    | fail)
  refine (load_any (cap := cap4) (x := x) (Rs.own0 HO4.out).pre).mono ?_
  rintro e w5 (⟨h5, rfl, hB5⟩ | ⟨hy, h5, rfl, hB5⟩ | ⟨b, v, hk, rfl, hq5, hB5⟩)
  · have HO5 := hide (own_below HO4.out hB5)
    have HB5 := hide (HB4.out.trans (hB5.mono HB4.out.size))
    clear hB5 HO4 HB4
    go_wp2_with fail
    refine (rload_any (HL.out.below HB5.out)).mono ?_
    rintro e w6 (⟨h6, rfl, hB6⟩ | ⟨hy, h6, rfl, hB6⟩ | ⟨xx, ad6, ab6, cap6, hk6, rfl, hX6, hx6, ha6, hB6⟩)
    · have HO6 := hide (own_below HO5.out hB6)
      have HB6 := hide (HB5.out.trans (hB6.mono HB5.out.size))
      clear hB6 HO5 HB5 h5 h6
      have HL6 := hide (HL.out.below HB6.out)
      go_wp2_with fail
      refine (same_self (Rs.own0 HO6.out).pre HL6.out (by omega)).mono ?_
      rintro e w7 ⟨rfl, hB7⟩
      have HO7 := hide (own_below HO6.out hB7)
      have HB7 := hide (HB6.out.trans (hB7.mono HB6.out.size))
      have k7 := last7 (Rs.own0 HO7.out)
      clear hB7 HO6 HB6 HL6
      go_wp2_with fail
      go_loopw [12] (fun s wr => ∃ (i : Nat) (A : List Rr), i ≤ L.length ∧ s = .int .i64 (i : Int) ∧ A.length = L.length + 1 ∧ Hid (wr.ownsRow w.heap.size 30 8 (.slice (some ⟨g, 0, none⟩) A.length cap4) A.length (rcs A)) ∧ Hid (Below w.heap.size w wr)) (fun s _ => L.length - (intOf s).toNat)
      case atStart => exact ⟨0, L ++ [r7], Nat.zero_le _, rfl, by rw [List.length_append]; rfl, HO7, HB7⟩
      case round =>
        clear HO7 HB7 k7
        obtain ⟨i, A, hi, rfl, hA, HO, HB⟩ := hrel
        by_cases hii : i < L.length
        · have hik : (i : Int) < (L.length : Int) := by omega
          have hiA : i < A.length := by omega
          obtain ⟨k0, k1, k2, k3, k4, k5, k6, k7⟩ := (Rs.own0 HO.out).eight0 hiA
          have z0 := own_frozen HO.out (i * 8)
          have z1 := own_frozen HO.out (i * 8 + 1)
          have z2 := own_frozen HO.out (i * 8 + 2)
          have z3 := own_frozen HO.out (i * 8 + 3)
          have z4 := own_frozen HO.out (i * 8 + 4)
          have z5 := own_frozen HO.out (i * 8 + 5)
          have z6 := own_frozen HO.out (i * 8 + 6)
          have z7 := own_frozen HO.out (i * 8 + 7)
          have HO2 : Hid ((set8a wr g (i * 8) r8).ownsRow w.heap.size 30 8 (.slice (some ⟨g, 0, none⟩) (A.set i r8).length cap4) (A.set i r8).length (rcs (A.set i r8))) := hide (by rw [List.length_set]; exact own_set8a HO.out hiA _)
          have HB2 : Hid (Below w.heap.size w (set8a wr g (i * 8) r8)) := hide (Ex.bel HB.out (Ex.set8a _ _ _ _) hgl)
          have hA2 : (A.set i r8).length = L.length + 1 := by rw [List.length_set]; exact hA
          clear HO HB
          go_wp2_with fail
          go_roundw
          case rel => exact ⟨i + 1, _, by omega, by go_num, hA2, HO2, HB2⟩
          case measure => simp only [intOf]; omega
        · have hik : ¬ (i : Int) < (L.length : Int) := by omega
          clear HO
          go_wp2_with fail
          refine (fixed_any _).mono ?_
          rintro e w9 ⟨rfl, hB9⟩
          go_wp2_with fail
          go_ret
          exact ⟨rfl, HB.out.trans (hB9.mono HB.out.size)⟩
    · exact absurd hy h5
    · exact absurd ⟨hk6.m1, hk6.m8⟩ h5
  · have HO5 := hide (own_below HO4.out hB5)
    have HB5 := hide (HB4.out.trans (hB5.mono HB4.out.size))
    clear hB5 HO4 HB4
    go_wp2_with fail
    refine (rload_any (HL.out.below HB5.out)).mono ?_
    rintro e w6 (⟨h6, rfl, hB6⟩ | ⟨hy6, h6, rfl, hB6⟩ | ⟨xx, ad6, ab6, cap6, hk6, rfl, hX6, hx6, ha6, hB6⟩)
    · exact absurd hy h6
    · have HO6 := hide (own_below HO5.out hB6)
      have HB6 := hide (HB5.out.trans (hB6.mono HB5.out.size))
      clear hB6 HO5 HB5 h5 h6 hy hy6
      have HL6 := hide (HL.out.below HB6.out)
      go_wp2_with fail
      refine (same_self (Rs.own0 HO6.out).pre HL6.out (by omega)).mono ?_
      rintro e w7 ⟨rfl, hB7⟩
      have HO7 := hide (own_below HO6.out hB7)
      have HB7 := hide (HB6.out.trans (hB7.mono HB6.out.size))
      have k7 := last7 (Rs.own0 HO7.out)
      clear hB7 HO6 HB6 HL6
      go_wp2_with fail
      go_loopw [12] (fun s wr => ∃ (i : Nat) (A : List Rr), i ≤ L.length ∧ s = .int .i64 (i : Int) ∧ A.length = L.length + 1 ∧ Hid (wr.ownsRow w.heap.size 30 8 (.slice (some ⟨g, 0, none⟩) A.length cap4) A.length (rcs A)) ∧ Hid (Below w.heap.size w wr)) (fun s _ => L.length - (intOf s).toNat)
      case atStart => exact ⟨0, L ++ [r7], Nat.zero_le _, rfl, by rw [List.length_append]; rfl, HO7, HB7⟩
      case round =>
        clear HO7 HB7 k7
        obtain ⟨i, A, hi, rfl, hA, HO, HB⟩ := hrel
        by_cases hii : i < L.length
        · have hik : (i : Int) < (L.length : Int) := by omega
          have hiA : i < A.length := by omega
          obtain ⟨k0, k1, k2, k3, k4, k5, k6, k7⟩ := (Rs.own0 HO.out).eight0 hiA
          have z0 := own_frozen HO.out (i * 8)
          have z1 := own_frozen HO.out (i * 8 + 1)
          have z2 := own_frozen HO.out (i * 8 + 2)
          have z3 := own_frozen HO.out (i * 8 + 3)
          have z4 := own_frozen HO.out (i * 8 + 4)
          have z5 := own_frozen HO.out (i * 8 + 5)
          have z6 := own_frozen HO.out (i * 8 + 6)
          have z7 := own_frozen HO.out (i * 8 + 7)
          have HO2 : Hid ((set8a wr g (i * 8) r8).ownsRow w.heap.size 30 8 (.slice (some ⟨g, 0, none⟩) (A.set i r8).length cap4) (A.set i r8).length (rcs (A.set i r8))) := hide (by rw [List.length_set]; exact own_set8a HO.out hiA _)
          have HB2 : Hid (Below w.heap.size w (set8a wr g (i * 8) r8)) := hide (Ex.bel HB.out (Ex.set8a _ _ _ _) hgl)
          have hA2 : (A.set i r8).length = L.length + 1 := by rw [List.length_set]; exact hA
          clear HO HB
          go_wp2_with fail
          go_roundw
          case rel => exact ⟨i + 1, _, by omega, by go_num, hA2, HO2, HB2⟩
          case measure => simp only [intOf]; omega
        · have hik : ¬ (i : Int) < (L.length : Int) := by omega
          clear HO
          go_wp2_with fail
          refine (fixed_any _).mono ?_
          rintro e w9 ⟨rfl, hB9⟩
          go_wp2_with fail
          go_ret
          exact ⟨rfl, HB.out.trans (hB9.mono HB.out.size)⟩
    · exact absurd hk6.toROk h5
  · have HO5 := hide (own_below HO4.out hB5)
    have HB5 := hide (HB4.out.trans (hB5.mono HB4.out.size))
    have HQ5 := hide hq5
    have hs5 := hB5.size
    have hf1 : ¬ Ft b v g := fun hf => absurd (hq5.ftlt _ hf).1 (by omega)
    have hs0 := HB4.out.size
    clear hB5 HO4 HB4 hq5
    go_wp2_with fail
    refine (rload_any (HL.out.below HB5.out)).mono ?_
    rintro e w6 (⟨h6, rfl, hB6⟩ | ⟨hy6, h6, rfl, hB6⟩ | ⟨xx, ad6, ab6, cap6, hk6, rfl, hX6, hx6, ha6, hB6⟩)
    · exact absurd ⟨hk.m1, hk.m8⟩ h6
    · exact absurd hk.toROk h6
    · have HO6 := hide (own_below HO5.out hB6)
      have HB6 := hide (HB5.out.trans (hB6.mono HB5.out.size))
      have hf2 : xx ≠ g := by omega
      have hf3 : ab6 ≠ g := by omega
      have hf4 : w.heap.size ≤ xx := by omega
      have HP6 : Hid (Pr w.heap.size x w6 b v xx ad6 ab6 cap6 L) := hide ⟨⟨(HQ5.out.below hB6).blk, Nat.le_trans hs0 HQ5.out.low, own_base (HQ5.out.below hB6).row hs0, HQ5.out.apt⟩, hX6, hk, fun _ hf => absurd (HQ5.out.ftlt _ hf).2 (by omega)⟩
      clear hB6 HO5 HB5 hX6 HQ5 hk hk6 hx6 ha6 hs5
      have HL6 := hide (HL.out.below HB6.out)
      go_wp2_with fail
      refine (same_self (Rs.own0 HO6.out).pre HL6.out (by omega)).mono ?_
      rintro e w7 ⟨rfl, hB7⟩
      have HO7 := hide (own_below HO6.out hB7)
      have HB7 := hide (HB6.out.trans (hB7.mono HB6.out.size))
      have HP7 := hide (HP6.out.below hB7)
      have k7 := last7 (Rs.own0 HO7.out)
      clear hB7 HO6 HB6 HL6
      go_wp2_with fail
      go_loopw [12] (fun s wr => ∃ (i : Nat) (A : List Rr), i ≤ L.length ∧ s = .int .i64 (i : Int) ∧ A.length = L.length + 1 ∧ Hid (wr.ownsRow w.heap.size 30 8 (.slice (some ⟨g, 0, none⟩) A.length cap4) A.length (rcs A)) ∧ Hid (Below w.heap.size w wr) ∧ Hid (Pr w.heap.size x wr b v xx ad6 ab6 cap6 L)) (fun s _ => L.length - (intOf s).toNat)
      case atStart => exact ⟨0, L ++ [r7], Nat.zero_le _, rfl, by rw [List.length_append]; rfl, HO7, HB7, HP7⟩
      case round =>
        clear HO7 HB7 k7 HP7 HP6
        obtain ⟨i, A, hi, rfl, hA, HO, HB, HP⟩ := hrel
        by_cases hii : i < L.length
        · have hik : (i : Int) < (L.length : Int) := by omega
          have hiA : i < A.length := by omega
          obtain ⟨k0, k1, k2, k3, k4, k5, k6, k7⟩ := (Rs.own0 HO.out).eight0 hiA
          have z0 := own_frozen HO.out (i * 8)
          have z1 := own_frozen HO.out (i * 8 + 1)
          have z2 := own_frozen HO.out (i * 8 + 2)
          have z3 := own_frozen HO.out (i * 8 + 3)
          have z4 := own_frozen HO.out (i * 8 + 4)
          have z5 := own_frozen HO.out (i * 8 + 5)
          have z6 := own_frozen HO.out (i * 8 + 6)
          have z7 := own_frozen HO.out (i * 8 + 7)
          have HO2 : Hid ((set8a wr g (i * 8) r8).ownsRow w.heap.size 30 8 (.slice (some ⟨g, 0, none⟩) (A.set i r8).length cap4) (A.set i r8).length (rcs (A.set i r8))) := hide (by rw [List.length_set]; exact own_set8a HO.out hiA _)
          have HB2 : Hid (Below w.heap.size w (set8a wr g (i * 8) r8)) := hide (Ex.bel HB.out (Ex.set8a _ _ _ _) hgl)
          have HP2 : Hid (Pr w.heap.size x (set8a wr g (i * 8) r8) b v xx ad6 ab6 cap6 L) := hide (HP.out.ex (Ex.set8a _ _ _ _) hf1 hf2 hf3)
          have hA2 : (A.set i r8).length = L.length + 1 := by rw [List.length_set]; exact hA
          clear HO HB HP
          go_wp2_with fail
          go_roundw
          case rel => exact ⟨i + 1, _, by omega, by go_num, hA2, HO2, HB2, HP2⟩
          case measure => simp only [intOf]; omega
        · have hik : ¬ (i : Int) < (L.length : Int) := by omega
          clear HO
          go_wp2_with fail
          refine (played_any (B := w.heap.size) HP.out hf4 HB.out.size (HS.out.below HB.out) hlt (by omega) HJ.out).mono ?_
          rintro e w8 ⟨rfl, hB8⟩
          have HB8 := hide (HB.out.trans hB8)
          clear hB8 HP
          go_wp2_with fail
          refine (fixed_any _).mono ?_
          rintro e w9 ⟨rfl, hB9⟩
          go_wp2_with fail
          go_ret
          exact ⟨rfl, HB8.out.trans (hB9.mono HB8.out.size)⟩
end Go.Proofs.Ytkchddphmkgilaa
