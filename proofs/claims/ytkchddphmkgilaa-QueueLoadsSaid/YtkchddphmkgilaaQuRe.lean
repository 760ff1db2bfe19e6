import Derived.Test.YtkchddphmkgilaaQuRd
namespace Go.Proofs.Ytkchddphmkgilaa
open Go.RowKit

theorem own_any {w : World} {B : Nat} {e : TypeId} {size n : Nat} {v : Value} {xs : List Value} (h : w.ownsRow B e size v n xs) : ∃ ad len cap, v = .slice ad len cap := by
  rcases h.2 with ⟨rfl, _⟩ | ⟨g, cap, cur, rfl, _⟩
  · exact ⟨_, _, _, rfl⟩
  · exact ⟨_, _, _, rfl⟩
theorem sub_x {w w3 w4 : World} {o : Obj} {v3 : Value} {n x : Nat} {ob : Obj} {xs : List Value} {o0 : Obj} {G : Nat} (h3 : (w.alloc o0).grownBy w3 (some G)) (h4 : (w3.alloc o).grownBy w4 v3.ownBlock) (ho : w3.ownsRow w.heap.size 30 8 v3 n xs) (hx : w.heap[x]? = some ob) (hlt : x < w.heap.size) (hs : (w.alloc o0).heap.size = w.heap.size + 1) (hG : G = w.heap.size := by rfl) : w4.heap[x]? = some ob := by
  subst hG
  have e1 := h3.size
  rw [h4.block x (by rw [World.size_alloc]; omega) (fun e => by have := (ho.lt x e.symm).1; omega), Below.heap_alloc _ _ _ (by omega), h3.block x (by omega) (fun e => by have := Option.some.inj e; omega), Below.heap_alloc _ _ _ hlt]
  exact hx
section
variable {w w' : World} {x : Nat} {ad : Option Addr} {ab cap : Nat} {m : Int} {L : List Rr}
/-- what a call of the document's queue leaves -/
def XPost (x : Nat) (m : Int) (w : World) (L' : List Rr) (ab : Nat) (L : List Rr) (w' : World) : Prop := ∃ ad2 ab2 cap2, Xm w' x ad2 ab2 cap2 m L' ∧ (L' = L ∧ ab2 = ab ∨ w.heap.size ≤ ab2) ∧ On x w w'
set_option maxHeartbeats 2000000 in
set_option maxRecDepth 8000 in
theorem rsubmit_any (h : Xm w x ad ab cap m L) (hl : L.length ≤ 8) : Calls Try.prog 50 #[.pointer (some ⟨x, 0, none⟩)] w fun e w' => e = .returned (.tuple #[.int .i64 (sbJ L), .int .i64 (sbE L)]) ∧ XPost x m w (sbL L) ab L w' := by
  obtain ⟨i0, hi0, hz0, hz1, hz2⟩ := info_parts Try.infoR
  have hlt := h.lt
  have c1 := h.c1
  by_cases h8 : ¬ L.length < 8
  · have HE1 : Hid (sbJ L = 0) := if_neg h8
    have HE2 : Hid (sbE L = 110) := if_neg h8
    have HE3 : Hid (sbL L = L) := if_neg h8
    have hlI : (8 : Int) < (L.length : Int) + 1 := by omega
    have HX := hide h
    clear h
    go_enter Try.func50, Try.ntmps50
    go_wp2
    go_ret2
    rw [HE1.out, HE2.out, HE3.out]
    exact ⟨rfl, _, _, _, HX.out, .inl ⟨rfl, rfl⟩, On.of_below (Below.refl _ _)⟩
  have h8 := Classical.not_not.1 h8
  have HE1 : Hid (sbJ L = (L.length : Int) + 1) := if_pos h8
  have HE2 : Hid (sbE L = 0) := if_pos h8
  have HE3 : Hid (sbL L = L ++ [nrow ((L.length : Int) + 1)]) := if_pos h8
  have hlI : ¬ (8 : Int) < (L.length : Int) + 1 := by omega
  have HX := hide h
  have hs1 := World.size_alloc w (.cells #[] 30)
  have HMd : Hid ((w.alloc (.cells #[] 30)).ownsRow w.heap.size 30 8 (.slice (some ⟨w.heap.size, 0, none⟩) 0 0) 0 []) := hide (World.ownsRow_made w #[] 0 (Nat.le_refl _) (by decide) rfl)
  have HSr := hide (fun a0 ha j u hu => Lib.cell?_alloc_some (W := w) (.cells #[] 30) (h.rs.src a0 ha j u hu))
  have HNo := hide h.rs.none
  have c1a : ∀ o, (w.alloc o).cell? ⟨x, 1, none⟩ = some (.slice ad L.length cap) := fun o => Lib.cell?_alloc_some _ c1
  clear h
  go_enter Try.func50, Try.ntmps50
  have HTok : Hid True := trivial
  go_wp2_with (first
    | (guard_hyp HTok : Hid True; at_builtin; refine wpList_append_read rfl _ _ 22 rfl w.heap.size 30 i0 rr0.val 8 64 Try.underlying22 hi0 hz0 hz1 hz2 rfl (by decide) (.slice (some ⟨w.heap.size, 0, none⟩) 0 0) 0 [] rfl HMd.out ad L.length cap (rcs L) rfl (rcs_len L) HNo.out HSr.out (rcs_one_cell L) (by unfold maxLen; omega) (by omega) (by simp) ?_; intro v3 w3 hown3 hgrow3; clear HTok; (rw [Nat.zero_add, List.nil_append] at hown3); (obtain ⟨p3, n3, q3, hv3⟩ := own_any hown3); subst hv3)
    | (at_builtin; refine wpList_append_lies _ rfl _ _ 22 rfl w.heap.size 30 i0 rr0.val 8 64 Try.underlying22 hi0 hz0 hz1 hz2 rfl (by decide) (.slice p3 n3 q3) L.length (rcs L) rfl (own_below hown3 (below_alloc w3 _)) ⟨w3.heap.size, 0, none⟩ 1 1 [.int .i64 ((L.length : Int) + 1), .int .i64 1, .int .i64 0, .int .i64 0, .int .i64 0, .int .i64 0, .int .i64 0, .int .u64 0] rfl rfl (World.news_of_block (cs := #[.int .i64 ((L.length : Int) + 1), .int .i64 1, .int .i64 0, .int .i64 0, .int .i64 0, .int .i64 0, .int .i64 0, .int .u64 0]) (t := 30) (fr := (0, 0)) (heap_alloc_new w3 _)) (by simp [Value.oneCell']) (by decide) (by unfold maxLen; omega) (by omega) (by rw [World.size_alloc]; have := hgrow3.size; omega) (w3.heap.size + 1) (by rw [World.size_alloc]) ?_; intro g cap4 w4 hown4 hgrow4 hat4 hlt4; (have x4 : w4.heap[x]? = some (.cells #[.int .i64 m, .slice ad L.length cap] 50 (0, 0)) := sub_x hgrow3 hgrow4 hown3 HX.out.blk hlt hs1); (have x1 : w4.cell? ⟨x, 1, none⟩ = some (.slice ad L.length cap) := by simp [World.cell?, x4]); (have xz : w4.frozen? ⟨x, 1, none⟩ = false := by simp [World.frozen?, x4]); (have HX4 := hide x4); clear x4))
  have HOn : Hid (On x w w4) := hide ⟨hgrow4.os.trans hgrow3.os, hgrow4.tape.trans hgrow3.tape, hgrow4.output.trans hgrow3.output, Nat.le_trans (by have := hgrow3.size; have := World.size_alloc w3 (.cells #[.int .i64 ((L.length : Int) + 1), .int .i64 1, .int .i64 0, .int .i64 0, .int .i64 0, .int .i64 0, .int .i64 0, .int .u64 0] 30); omega) hgrow4.size, fun k hk _ => by
    obtain ⟨ob, hob⟩ : ∃ ob, w.heap[k]? = some ob := ⟨w.heap[k], Array.getElem?_eq_getElem hk⟩
    rw [hob]; exact sub_x hgrow3 hgrow4 hown3 hob hk hs1⟩
  have hgb : w.heap.size ≤ g := (hown4.lt g rfl).1
  go_ret2
  rw [HE1.out, HE2.out, HE3.out]
  have h6 := Xm.put (L' := L ++ [nrow ((L.length : Int) + 1)]) (ab' := g) (cap' := cap4) HX4.out (by rw [List.length_append, rcs_append, rcs_one]; exact own_base hown4 (Nat.zero_le _)) (by omega)
  rw [List.length_append] at h6
  exact ⟨rfl, _, _, _, h6, .inr hgb, HOn.out.trans (on_put _ _ _)⟩
end
end Go.Proofs.Ytkchddphmkgilaa
