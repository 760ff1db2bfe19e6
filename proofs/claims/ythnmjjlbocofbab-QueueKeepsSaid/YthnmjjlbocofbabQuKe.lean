import Derived.Test.YthnmjjlbocofbabQuRb
namespace Go.Proofs.Ythnmjjlbocofbab
open Go.RowKit

/-- all but one block is as it was -/
structure Ex (G : Nat) (w w' : World) : Prop where
  os : w'.os = w.os
  tape : w'.tape = w.tape
  output : w'.output = w.output
  size : w.heap.size ≤ w'.heap.size
  block : ∀ k, k < w.heap.size → k ≠ G → w'.heap[k]? = w.heap[k]?
theorem Ex.of_below {G : Nat} {w w' : World} (h : Below w.heap.size w w') : Ex G w w' := ⟨h.os, h.tape, h.output, h.size, fun k hk _ => h.block k hk⟩
theorem Ex.set8a (w : World) (G a : Nat) (r : Rr) : Ex G w (set8a w G a r) := by
  have h := mv_set8a (F := fun k => k = G) (mv_refl _ w) rfl a r
  exact ⟨h.os, h.tape, h.output, h.size, fun k hk hn => h.block k hk hn⟩
/-- what QueueKeeps keeps -/
structure Kk (w0 : World) (b : Nat) (v : Value) (G G2 : Nat) (ad : Option Addr) (ab ao : Nat) (m : Int) (L : List Rr) (w : World) : Prop where
  q : Qt w0 b v m L w
  rb : Rs w (some ⟨G2, 0, none⟩) G2 0 L
  rl : Rs w ad ab ao L
  n1 : ¬ Ft b v G
  n2 : G2 ≠ G
  n3 : 0 < L.length → ab ≠ G
  low : w0.heap.size ≤ G
theorem Kk.ex {w0 w w' : World} {b : Nat} {v : Value} {G G2 : Nat} {ad : Option Addr} {ab ao : Nat} {m : Int} {L : List Rr} (h : Kk w0 b v G G2 ad ab ao m L w) (he : Ex G w w') : Kk w0 b v G G2 ad ab ao m L w' :=
  ⟨⟨h.q.q.keep fun k hk => he.block k (h.q.q.ftlt k hk).2 (fun e => h.n1 (by rw [← e]; exact hk)), h.q.bel.trans ⟨he.os, he.tape, he.output, he.size, fun k hk => he.block k (Nat.lt_of_lt_of_le hk h.q.bel.size) (by have := h.low; omega)⟩⟩,
    h.rb.keep fun h0 => he.block _ (h.rb.lt h0) h.n2, h.rl.keep fun h0 => he.block _ (h.rl.lt h0) (h.n3 h0), h.n1, h.n2, h.n3, h.low⟩
theorem Kk.below {w0 w w' : World} {b : Nat} {v : Value} {G G2 : Nat} {ad : Option Addr} {ab ao : Nat} {m : Int} {L : List Rr} (h : Kk w0 b v G G2 ad ab ao m L w) (hb : Below w.heap.size w w') : Kk w0 b v G G2 ad ab ao m L w' := h.ex (Ex.of_below hb)
theorem own_below {w w' : World} {B : Nat} {e : TypeId} {size n : Nat} {v : Value} {xs : List Value} (h : w.ownsRow B e size v n xs) (hb : Below w.heap.size w w') : w'.ownsRow B e size v n xs := by
  refine ⟨h.1, ?_⟩
  rcases h.2 with h1 | ⟨g, cap, cur, rfl, hg, hh, h2⟩
  · exact .inl h1
  · exact .inr ⟨g, cap, cur, rfl, hg, (hb.block g (lt_of_block hh)).trans hh, h2⟩
theorem own_frozen {w : World} {B g n cap size : Nat} {e : TypeId} {xs : List Value} (h : w.ownsRow B e size (.slice (some ⟨g, 0, none⟩) n cap) n xs) (o : Nat) : w.frozen? ⟨g, o, none⟩ = false := by
  rcases h.2 with ⟨h1, _⟩ | ⟨g', cap', cur, h1, hb, hg, _⟩
  · cases h1
  · injection h1 with h1; injection h1 with h1; injection h1 with h1; subst h1; simp [World.frozen?, hg]
set_option maxHeartbeats 4000000 in
set_option maxRecDepth 8000 in
theorem queueKeeps_walk {w : World} {ad : Option Addr} {ab ao cap : Nat} {L : List Rr} (hQ : Rs w ad ab ao L) (hQl : L.length ≤ 2199023255488) (_ : ∀ i (h : i < L.length), -9223372036854775808 ≤ (L[i]).job ∧ (L[i]).job ≤ 9223372036854775807) :
    Calls Try.prog 4 #[.slice ad L.length cap] w fun e w' => e = .returned (.bool true) ∧ Below w.heap.size w w' := by
  have HN := hide (load_any (cap := cap) (x := 8) hQ)
  have HS := hide hQ
  clear hQ
  go_enter Try.func4, Try.ntmps4
  go_wp2_with fail
  refine HN.out.mono ?_
  rintro e w1 (⟨h, _⟩ | ⟨_, h, rfl, hB1⟩ | ⟨b, v, hk, rfl, hq, hB1⟩)
  · exact absurd (by decide) h
  · have HB1 := hide hB1
    have HS1 := hide (HS.out.below hB1)
    clear HN hB1
    go_wp2_with fail
    refine (rrows_any HS1.out (by decide)).mono ?_
    rintro e w2 ⟨⟨h2, _⟩ | ⟨h2, rfl⟩, hB2⟩
    · exact absurd h2 h
    have HB2 := hide (HB1.out.trans (hB2.mono HB1.out.size))
    clear h h2 hB2
    go_wp2_with fail
    refine (fixed_any _).mono ?_
    rintro e w3 ⟨rfl, hB3⟩
    go_wp2_with fail
    go_ret
    exact ⟨rfl, HB2.out.trans (hB3.mono HB2.out.size)⟩
  have hl8 := hk.len
  have HQ : Hid (Qt w b v 8 L w1) := hide ⟨hq, hB1⟩
  have HS1 := hide (HS.out.below hB1)
  clear HN hk hq hB1
  go_wp2_with fail
  refine (qrows_any HQ.out.q hl8).mono ?_
  rintro e w2 ⟨rfl, ho2, hB2⟩
  have HQ2 := hide (HQ.out.below hB2)
  have HS2 := hide (HS1.out.below hB2)
  have HO2 := hide ho2
  have hn1 : ¬ Ft b v w1.heap.size := fun hf => absurd (HQ.out.q.ftlt _ hf).2 (by omega)
  have hn3 : 0 < L.length → ab ≠ w1.heap.size := fun h0 e => absurd (HS1.out.lt h0) (by omega)
  have hlo := HQ.out.bel.size
  have hgl : w1.heap.size < w2.heap.size := (ho2.lt w1.heap.size rfl).2
  obtain ⟨G, hG⟩ : ∃ G, w1.heap.size = G := ⟨_, rfl⟩
  rw [hG] at HO2 hn1 hn3 hlo hgl ⊢
  clear ho2 hB2 HQ HS1 hG
  go_wp2_with fail
  refine (qrows_any HQ2.out.q hl8).mono ?_
  rintro e w3 ⟨rfl, ho3, hB3⟩
  have HK3 : Hid (Kk w b v G w2.heap.size ad ab ao 8 L w3) := hide ⟨HQ2.out.below hB3, Rs.own0 ho3, HS2.out.below hB3, hn1, by omega, hn3, hlo⟩
  have HO3 := hide (own_below HO2.out hB3)
  obtain ⟨G2, hG2⟩ : ∃ G, w2.heap.size = G := ⟨_, rfl⟩
  rw [hG2] at HK3 ⊢
  clear ho3 hB3 HQ2 HS2 HO2 hG2 hn1 hn3 hgl
  go_wp2_with fail
  go_loopw [7] (fun s wr => ∃ (i : Nat) (A : List Rr), i ≤ L.length ∧ s = .int .i64 (i : Int) ∧ A.length = L.length ∧ Hid (Kk w b v G G2 ad ab ao 8 L wr ∧ ∃ B, wr.ownsRow B 44 8 (.slice (some ⟨G, 0, none⟩) A.length A.length) A.length (rcs A))) (fun s _ => L.length - (intOf s).toNat)
  case atStart => exact ⟨0, L, Nat.zero_le _, rfl, rfl, hide ⟨HK3.out, _, HO3.out⟩⟩
  case round =>
    clear HK3 HO3
    obtain ⟨i, A, hi, rfl, hA, HX⟩ := hrel
    by_cases hii : i < L.length
    · have hik : (i : Int) < (L.length : Int) := by omega
      obtain ⟨B, hO⟩ := HX.out.2
      have hiA : i < A.length := by omega
      obtain ⟨k0, k1, k2, k3, k4, k5, k6, k7⟩ := (Rs.own0 hO).eight0 hiA
      have z0 := own_frozen hO (i * 8)
      have z1 := own_frozen hO (i * 8 + 1)
      have z2 := own_frozen hO (i * 8 + 2)
      have z3 := own_frozen hO (i * 8 + 3)
      have z4 := own_frozen hO (i * 8 + 4)
      have z5 := own_frozen hO (i * 8 + 5)
      have z6 := own_frozen hO (i * 8 + 6)
      have z7 := own_frozen hO (i * 8 + 7)
      have HX2 : Hid (Kk w b v G G2 ad ab ao 8 L (set8a wr G (i * 8) ⟨-1 - (i : Int), 0, 0, 0, 0, 0, 0, 0⟩) ∧ ∃ B, (set8a wr G (i * 8) ⟨-1 - (i : Int), 0, 0, 0, 0, 0, 0, 0⟩).ownsRow B 44 8 (.slice (some ⟨G, 0, none⟩) (A.set i ⟨-1 - (i : Int), 0, 0, 0, 0, 0, 0, 0⟩).length (A.set i ⟨-1 - (i : Int), 0, 0, 0, 0, 0, 0, 0⟩).length) (A.set i ⟨-1 - (i : Int), 0, 0, 0, 0, 0, 0, 0⟩).length (rcs (A.set i ⟨-1 - (i : Int), 0, 0, 0, 0, 0, 0, 0⟩))) := hide ⟨HX.out.1.ex (Ex.set8a _ _ _ _), B, by rw [List.length_set]; exact own_set8a hO hiA _⟩
      have hA2 : (A.set i ⟨-1 - (i : Int), 0, 0, 0, 0, 0, 0, 0⟩).length = L.length := by rw [List.length_set]; exact hA
      clear hO HX
      go_wp2_with fail
      go_roundw
      case rel => exact ⟨i + 1, _, by omega, by go_num, hA2, HX2⟩
      case measure => simp only [intOf]; omega
    · have hik : ¬ (i : Int) < (L.length : Int) := by omega
      obtain ⟨B, hO⟩ := HX.out.2
      rw [hA] at hO
      have hBle : B ≤ wr.heap.size := by
        rcases hO.2 with ⟨h1, _⟩ | ⟨g', cap', cur, h1, hb, hg, _⟩
        · cases h1
        · have := lt_of_block hg; omega
      have HO := hide hO
      have HK := hide HX.out.1
      obtain ⟨i0, hi0, hz0, hz1, hz2⟩ := info_parts Try.infoR
      clear hO HX
      go_upto_region 10 with (at_builtin; refine wpList_append_lies _ rfl _ _ 29 rfl B 44 i0 rr0.val 8 64 Try.underlying29 hi0 hz0 hz1 hz2 rfl (by decide) (.slice (some ⟨G, 0, none⟩) L.length L.length) L.length (rcs A) rfl (own_below HO.out (below_alloc wr _)) ⟨wr.heap.size, 0, none⟩ 1 1 [.int .i64 (-99), .int .i64 0, .int .i64 0, .int .i64 0, .int .i64 0, .int .i64 0, .int .i64 0, .int .u64 0] rfl rfl (World.news_of_block (cs := #[.int .i64 (-99), .int .i64 0, .int .i64 0, .int .i64 0, .int .i64 0, .int .i64 0, .int .i64 0, .int .u64 0]) (t := 44) (fr := (0, 0)) (heap_alloc_new wr _)) (by simp [Value.oneCell']) (by decide) (by unfold maxLen; omega) (by omega) (by rw [World.size_alloc]; omega) (wr.heap.size + 1) (by rw [World.size_alloc]) ?_; intro g cap' w5 hown hgrow hat hlt2)
      have HK5 : Hid (Kk w b v G G2 ad ab ao 8 L w5) := hide ((HK.out.below (below_alloc wr _)).ex ⟨hgrow.os, hgrow.tape, hgrow.output, hgrow.size, fun k hk hn => hgrow.block k hk (fun e => hn (Option.some.inj e))⟩)
      clear hown hgrow hat hlt2 HK HO
      have bl : ((L.length : Int) + 1 == (L.length : Int) + 1) = true := by simp
      go_wp2_with fail
      refine (same_self HK5.out.rb HK5.out.rl (by omega)).mono ?_
      rintro e w6 ⟨rfl, hB6⟩
      have HK6 := hide (HK5.out.below hB6)
      clear hB6 HK5
      go_wp2_with fail
      refine (qrows_any HK6.out.q.q hl8).mono ?_
      rintro e w7 ⟨rfl, ho7, hB7⟩
      have HK7 := hide (HK6.out.below hB7)
      have HR7 := hide (Rs.own0 ho7)
      clear ho7 hB7 HK6
      go_wp2_with fail
      refine (same_self HR7.out HK7.out.rl (by omega)).mono ?_
      rintro e w8 ⟨rfl, hB8⟩
      have HB8 := hide (HK7.out.below hB8).q.bel
      clear hB8 HK7 HR7
      go_wp2_with fail
      refine (fixed_any _).mono ?_
      rintro e w9 ⟨rfl, hB9⟩
      go_wp2_with fail
      go_ret
      exact ⟨rfl, HB8.out.trans (hB9.mono HB8.out.size)⟩
end Go.Proofs.Ythnmjjlbocofbab
