import Derived.Test.YtkchddphmkgilaaQuPe
namespace Go.Proofs.Ytkchddphmkgilaa
open Go.RowKit

/-- rows of one's own, as they are read -/
theorem own_read {w : World} {B : Nat} {v : Value} {L : List Rr} (h : w.ownsRow B 30 8 v L.length (rcs L)) : ∃ ad ab cap, v = .slice ad L.length cap ∧ Rs w ad ab 0 L ∧ (0 < L.length → ∃ cs, w.heap[ab]? = some (.cells cs 30 (0, 0))) ∧ B ≤ ab := by
  rcases h.2 with ⟨rfl, h0⟩ | ⟨g, cap, cur, rfl, hg, hh, _⟩
  · exact ⟨none, B, 0, by rw [h0], ⟨fun h => absurd h (by omega), fun i hi => absurd hi (by omega)⟩, fun h => absurd h (by omega), Nat.le_refl _⟩
  · exact ⟨some ⟨g, 0, none⟩, g, cap, rfl, Rs.own0 h, fun _ => ⟨cur, hh⟩, hg⟩
theorem Xm.lay {w : World} {x n0 c0 ab' cap' : Nat} {a0 ad' : Option Addr} {m : Int} {L' : List Rr} (h : w.heap[x]? = some (.cells #[.int .i64 m, .slice a0 n0 c0] 50 (0, 0))) (hR : Rs w ad' ab' 0 L') (hT : 0 < L'.length → ∃ cs, w.heap[ab']? = some (.cells cs 30 (0, 0))) (hn : ab' ≠ x) :
    Xm (w.setCell ⟨x, 1, none⟩ (.slice ad' L'.length cap')) x ad' ab' cap' m L' := by
  have hk := Below.heap_setCell w ⟨x, 1, none⟩ (.slice ad' L'.length cap') ab' hn
  refine ⟨heap_set_self w x 1 _ _ _ _ h, hR.keep fun _ => hk, fun h0 => ?_⟩
  obtain ⟨cs, hc⟩ := hT h0
  exact ⟨cs, hk.trans hc⟩
/-- what the document's Load leaves -/
inductive RL (y : Int) (L : List Rr) (w : World) (e : Ending) (w' : World) : Prop
  | arg : ¬ (1 ≤ y ∧ y ≤ 8) → e = .returned (.tuple #[.pointer none, .int .i64 1]) → Below w.heap.size w w' → RL y L w e w'
  | form : 1 ≤ y ∧ y ≤ 8 → ¬ ROk y L → e = .returned (.tuple #[.pointer none, .int .i64 114]) → Below w.heap.size w w' → RL y L w e w'
  | ok (x : Nat) (ad : Option Addr) (ab cap : Nat) : Ok y L → e = .returned (.tuple #[.pointer (some ⟨x, 0, none⟩), .int .i64 0]) → Xm w' x ad ab cap y L → w.heap.size ≤ x → w.heap.size ≤ ab → Below w.heap.size w w' → RL y L w e w'
set_option maxHeartbeats 2000000 in
set_option maxRecDepth 8000 in
theorem rload_any {w : World} {ad : Option Addr} {ab ao cap : Nat} {L : List Rr} {y : Int} (h : Rs w ad ab ao L) : Calls Try.prog 5 #[.int .i64 y, .slice ad L.length cap] w (RL y L w) := by
  obtain ⟨i0, hi0, hz0, hz1, hz2⟩ := info_parts Try.infoR
  have HS := hide h
  clear h
  go_enter Try.func5, Try.ntmps5
  go_wp2_with fail
  refine (rnew_any w y).mono ?_
  rintro e w1 (⟨h1, rfl, rfl⟩ | ⟨h1, h8, rfl, hX1, hB1⟩)
  · go_wp2_with fail
    go_ret2
    exact .arg h1 rfl (Below.refl _ _)
  have HX1 := hide hX1
  have HB1 := hide hB1
  clear hX1 hB1
  go_wp2_with fail
  refine (rrows_any (HS.out.below HB1.out) h1).mono ?_
  rintro e w2 ⟨⟨hk, rfl⟩ | ⟨hk, rfl⟩, hB2⟩
  · have HB2 := hide (HB1.out.trans (hB2.mono HB1.out.size))
    have HX2 := hide (HX1.out.below hB2)
    have hl := hk.len
    have HK : Hid (Ok y L) := hide ⟨hk, h1, h8⟩
    clear hk hB2 HX1 HB1
    have hs2 := World.size_alloc w2 (.cells #[] 30)
    have hxl := HX2.out.lt
    have HMd : Hid ((w2.alloc (.cells #[] 30)).ownsRow w2.heap.size 30 8 (.slice (some ⟨w2.heap.size, 0, none⟩) 0 0) 0 []) := hide (World.ownsRow_made w2 #[] 0 (Nat.le_refl _) (by decide) rfl)
    have HSr := hide (fun a0 ha j u hu => Lib.cell?_alloc_some (W := w2) (.cells #[] 30) ((HS.out.below HB2.out).src a0 ha j u hu))
    have HNo := hide HS.out.none
    go_wp2_with (at_builtin; refine wpList_append_read rfl _ _ 22 rfl w2.heap.size 30 i0 rr0.val 8 64 Try.underlying22 hi0 hz0 hz1 hz2 rfl (by decide) (.slice (some ⟨w2.heap.size, 0, none⟩) 0 0) 0 [] rfl HMd.out ad L.length cap (rcs L) rfl (rcs_len L) HNo.out HSr.out (rcs_one_cell L) (by unfold maxLen; omega) (by omega) (by simp) ?_; intro v3 w3 hown3 hgrow3; (rw [Nat.zero_add, List.nil_append] at hown3); (obtain ⟨ad3, ab3, cap3, hv3, hR3, hT3, hb3⟩ := own_read hown3); subst hv3; (have x3 : w3.heap[w.heap.size]? = some (.cells #[.int .i64 y, .slice none 0 0] 50 (0, 0)) := (hgrow3.block _ (by omega) (fun e => by have := Option.some.inj e; simp only at this; omega)).trans ((Below.heap_alloc _ _ _ hxl).trans HX2.out.blk)); (have x1 : w3.cell? ⟨w.heap.size, 1, none⟩ = some (.slice none 0 0) := by simp [World.cell?, x3]); (have xz : w3.frozen? ⟨w.heap.size, 1, none⟩ = false := by simp [World.frozen?, x3]); (have HX3 := hide x3); (have HG3 := hide hgrow3); (have HR3 := hide hR3); (have HT3 := hide hT3); clear x3 hown3 hgrow3 hR3 hT3)
    have hg3 := HG3.out.size
    go_ret2
    refine .ok w.heap.size ad3 ab3 cap3 HK.out rfl (Xm.lay HX3.out HR3.out HT3.out (by omega)) (Nat.le_refl _) (by omega) ?_
    refine HB2.out.trans (Below.trans (b := w3) ⟨HG3.out.os, HG3.out.tape, HG3.out.output, by omega, fun k hk => (HG3.out.block k (by omega) (fun e => by have := Option.some.inj e; simp only at this; omega)).trans (Below.heap_alloc _ _ _ (by omega))⟩ ((on_put w3 w.heap.size _).below (Nat.le_refl _) (by omega)))
  · have HB2 := hide (HB1.out.trans (hB2.mono HB1.out.size))
    clear hB2 HX1 HB1
    go_wp2_with fail
    go_ret2
    exact .form ⟨h1, h8⟩ hk rfl HB2.out
end Go.Proofs.Ytkchddphmkgilaa
