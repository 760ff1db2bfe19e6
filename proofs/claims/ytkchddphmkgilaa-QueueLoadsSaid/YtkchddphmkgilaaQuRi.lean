import Derived.Test.YtkchddphmkgilaaQuRh
namespace Go.Proofs.Ytkchddphmkgilaa
open Go.RowKit

section
variable {w w' : World} {x : Nat} {ad : Option Addr} {ab cap : Nat} {m : Int} {L : List Rr}
set_option maxHeartbeats 2000000 in
set_option maxRecDepth 8000 in
theorem rsettle_any (h : Xm w x ad ab cap m L) (hk : Ok m L) (g c y : Int) : Calls Try.prog 55 #[.pointer (some ⟨x, 0, none⟩), .int .i64 g, .agg #[.int .i64 c, .int .u64 y]] w fun e w' => e = .returned (.tuple #[.int .i64 (seJ L g c y), .int .i64 (seE L g c y)]) ∧ XPost x m w (seL L g c y) ab L w' := by
  have hl := hk.len
  have hlt := h.lt
  have HX0 := hide (h.below (below_alloc w (.cells #[.int .i64 c, .int .u64 y] 28)))
  have HB0 := hide (below_alloc w (.cells #[.int .i64 c, .int .u64 y] 28))
  have HR0 : Hid ((w.alloc (.cells #[.int .i64 c, .int .u64 y] 28)).heap[w.heap.size]? = some (.cells #[.int .i64 c, .int .u64 y] 28 (0, 0))) := hide (heap_alloc_new w _)
  have hsz := World.size_alloc w (.cells #[.int .i64 c, .int .u64 y] 28)
  have HH := hide (rheld_any (h.below (below_alloc w (.cells #[.int .i64 c, .int .u64 y] 28))) hk g)
  cases hx : hix g L with
  | none =>
    have e1 : exJ L g = 0 := by unfold exJ; rw [hx]
    have HE1 : Hid (seJ L g c y = 0) := by show seJ L g c y = _; unfold seJ; rw [hx]
    have HE2 : Hid (seE L g c y = 113) := by show seE L g c y = 113; unfold seE; rw [hx]
    have HE3 : Hid (seL L g c y = L) := by show seL L g c y = L; unfold seL; rw [hx]
    rw [e1] at HH
    clear h hk hx e1
    go_enter Try.func55, Try.ntmps55
    go_wp2_with fail
    refine HH.out.mono ?_
    rintro e w1 ⟨rfl, rfl⟩
    go_wp2
    go_ret2
    rw [HE1.out, HE2.out, HE3.out]
    exact ⟨rfl, XPost.same HX0.out (On.of_below HB0.out)⟩
  | some i =>
    obtain ⟨hi, e, h2, hb, ha1, ha2, hb1, hb2⟩ := hk.held hx
    have e1 : exJ L g = (i : Int) + 1 := by unfold exJ; rw [hx]
    rw [e1] at HH
    have HJ := hide (hk.job i hi)
    have HRa := hide (fun V => rresult_any V c y)
    have n0 : ((i : Int) + 1 == 0) = false := by simp; omega
    by_cases hm : xMay c y
    · have HE1 : Hid (seJ L g c y = (i : Int) + 1) := by show seJ L g c y = _; unfold seJ; rw [hx]; exact if_pos hm
      have HE2 : Hid (seE L g c y = 0) := by show seE L g c y = _; unfold seE; rw [hx]; exact if_pos hm
      have HE3 : Hid (seL L g c y = L.set i (stl L[i] c y)) := by show seL L g c y = _; unfold seL; rw [hx, ← e]; exact if_pos hm
      rw [decide_eq_true hm] at HRa
      have hat := HX0.out.rs.at_ (by omega)
      subst hat
      have HC := hide (fun V (hV : Xm V x (some ⟨ab, 0, none⟩) ab cap m L) => (⟨hV.rs.eight0 hi, hV.c1, hV.rs.lt (by omega), hV.lt⟩ : _ ∧ _ ∧ _ ∧ _))
      have hiI : (i : Int) < (L.length : Int) := by omega
      have e9 : (i : Int) + 1 - 1 = (i : Int) := by omega
      clear h hk hx e1 e h2 hb ha1 ha2 hb1 hb2 hm
      generalize L[i] = r at *
      go_enter Try.func55, Try.ntmps55
      go_wp2_with fail
      generalize w.alloc (.cells #[.int .i64 c, .int .u64 y] 28) = W0 at *
      refine HH.out.mono ?_
      rintro e w1 ⟨rfl, rfl⟩
      have hr0 := HR0.out
      have r0 : w1.cell? ⟨w.heap.size, 0, none⟩ = some (.int .i64 c) := by simp [World.cell?, hr0]
      have r1 : w1.cell? ⟨w.heap.size, 1, none⟩ = some (.int .u64 y) := by simp [World.cell?, hr0]
      clear hr0
      go_wp2_with fail
      refine (HRa.out _).mono ?_
      rintro e w2 ⟨rfl, hB2⟩
      have HX2 := hide (HX0.out.below hB2)
      have HB2 := hide (HB0.out.trans (hB2.mono (by omega)))
      have hr2 := (hB2.block _ (lt_of_block HR0.out)).trans HR0.out
      have hrl := lt_of_block hr2
      clear hB2 r0 r1 HRa HH
      have r0 : w2.cell? ⟨w.heap.size, 0, none⟩ = some (.int .i64 c) := by simp [World.cell?, hr2]
      have r1 : w2.cell? ⟨w.heap.size, 1, none⟩ = some (.int .u64 y) := by simp [World.cell?, hr2]
      clear hr2 HR0 HX0 HB0
      obtain ⟨⟨k0, k1, k2, k3, k4, k5, k6, k7⟩, c1, hlr, hxl⟩ := HC.out _ HX2.out
      go_wp2_with fail
      refine (rset_any (HX2.out.below (below_alloc w2 (.cells #[.int .i64 r.job, .int .i64 3, .int .i64 r.att, .int .i64 r.bdg, .int .i64 0, .int .i64 0, .int .i64 c, .int .u64 y] 30))) hl hi (stl r c y) HJ.out).mono ?_
      rintro e w4 ⟨rfl, ad4, ab4, cap4, hX4, hlo4, hO4⟩
      have hs5 := HB2.out.size
      have HF : Hid (XPost x m w (L.set i (stl r c y)) ab L w4) := hide ⟨ad4, ab4, cap4, hX4, .inr (Nat.le_trans (by rw [World.size_alloc]; omega) hlo4), ((On.of_below HB2.out).trans (On.of_below (below_alloc w2 _))).trans hO4⟩
      clear hX4 hO4 hlo4 k0 k1 k2 k3 k4 k5 k6 k7 c1 r0 r1
      go_wp2
      go_ret2
      rw [HE1.out, HE2.out, HE3.out]
      exact ⟨rfl, HF.out⟩
    · have HE1 : Hid (seJ L g c y = 0) := by show seJ L g c y = _; unfold seJ; rw [hx]; exact if_neg hm
      have HE2 : Hid (seE L g c y = 1) := by show seE L g c y = _; unfold seE; rw [hx]; exact if_neg hm
      have HE3 : Hid (seL L g c y = L) := by show seL L g c y = _; unfold seL; rw [hx]; exact if_neg hm
      rw [decide_eq_false hm] at HRa
      clear h hk hx e1 e h2 hb ha1 ha2 hb1 hb2 hm
      go_enter Try.func55, Try.ntmps55
      go_wp2_with fail
      generalize w.alloc (.cells #[.int .i64 c, .int .u64 y] 28) = W0 at *
      refine HH.out.mono ?_
      rintro e w1 ⟨rfl, rfl⟩
      have hr0 := HR0.out
      have r0 : w1.cell? ⟨w.heap.size, 0, none⟩ = some (.int .i64 c) := by simp [World.cell?, hr0]
      have r1 : w1.cell? ⟨w.heap.size, 1, none⟩ = some (.int .u64 y) := by simp [World.cell?, hr0]
      clear hr0
      go_wp2_with fail
      refine (HRa.out _).mono ?_
      rintro e w2 ⟨rfl, hB2⟩
      go_wp2
      go_ret2
      rw [HE1.out, HE2.out, HE3.out]
      exact ⟨rfl, XPost.same (HX0.out.below hB2) ((On.of_below HB0.out).trans (On.of_below hB2))⟩
end
end Go.Proofs.Ytkchddphmkgilaa
