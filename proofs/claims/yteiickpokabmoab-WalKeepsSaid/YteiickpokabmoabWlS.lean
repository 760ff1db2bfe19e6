import Derived.Test.YteiickpokabmoabWlR
namespace Go.Proofs.Yteiickpokabmoab
open Go.RowKit Go.Shelf
open Wl (Hd WS Log)

theorem three {w : World} {a b c : Obj} : ((w.alloc a).alloc b).alloc c = ((w.alloc a).alloc b).alloc c ∧ (((w.alloc a).alloc b).alloc c).heap[w.heap.size]? = some a ∧ (((w.alloc a).alloc b).alloc c).heap[w.heap.size + 1]? = some b ∧ (((w.alloc a).alloc b).alloc c).heap[w.heap.size + 2]? = some c := by
  refine ⟨rfl, ?_, ?_, ?_⟩
  · rw [Below.heap_alloc _ _ _ (by simp; omega), Below.heap_alloc _ _ _ (by simp)]; exact heap_alloc_new w a
  · rw [Below.heap_alloc _ _ _ (by simp)]; have := heap_alloc_new (w.alloc a) b; rw [World.size_alloc] at this; exact this
  · have := heap_alloc_new ((w.alloc a).alloc b) c; rw [World.size_alloc, World.size_alloc] at this; exact this
theorem bel3 (w : World) (a b c : Obj) : Below w.heap.size w (((w.alloc a).alloc b).alloc c) := ((below_alloc w a).alloc (by simp) b).alloc (by simp; omega) c
theorem mv_onl {w w2 w3 : World} {F F' : Nat → Prop} {W : Nat} (hM : D.Mv (FW F W) (FW F' W) w w2) (h : Onl W w2 w3) : D.Mv (FW F W) (FW F' W) w w3 :=
  ⟨h.os.trans hM.os, h.tape.trans hM.tape, h.output.trans hM.output, by rw [h.size]; exact hM.size, fun k hk hn => (h.block k (fun e => hn (.inr e))).trans (hM.block k hk hn), hM.foot⟩
theorem mv_set {w w2 : World} {F F' : Nat → Prop} {a : Addr} {v : Value} (hM : D.Mv F F' w w2) (ha : w.heap.size ≤ a.block) : D.Mv F F' w (w2.setCell a v) :=
  ⟨hM.os, hM.tape, hM.output, by rw [D.setCell_size]; exact hM.size, fun k hk hn => (Below.heap_setCell _ _ _ _ (by omega)).trans (hM.block k hk hn), hM.foot⟩
set_option maxHeartbeats 2000000 in
set_option maxRecDepth 8000 in
theorem powered_A {base : Nat} {w : World} {b W p1 p2 : Nat} {F : Nat → Prop} {d : D.DS} {ws ws1 : WS} {r : Int × D.DS} (h : D.Dk base w b F d) (hw : Wm w W b ws) (hFW : ¬ F W)
    (HC : Hid (d.dead = false → ws.gone = false → ∀ V, Below w.heap.size w V → Calls Try.prog 21 #[.pointer (some ⟨p1, 0, none⟩), .pointer (some ⟨p2, 0, none⟩)] V fun e w' => e = .returned (.int .i64 r.1) ∧ Wm w' W b ws1 ∧ ∃ F', D.Dk base w' b F' r.2 ∧ D.Mv (FW F W) (FW F' W) V w' ∧ ¬ F' W)) :
    Calls Try.prog 20 #[.pointer (some ⟨W, 0, none⟩), .func (.func 21) #[] #[.pointer (some ⟨p1, 0, none⟩), .pointer (some ⟨p2, 0, none⟩)]] w fun e w' => e = .returned (.int .i64 (Wl.powered d ws (r.1, r.2, wsAfter r.1 ws ws1)).1) ∧ Wm w' W b (Wl.powered d ws (r.1, r.2, wsAfter r.1 ws ws1)).2.2 ∧ ∃ F', D.Dk base w' b F' (Wl.powered d ws (r.1, r.2, wsAfter r.1 ws ws1)).2.1 ∧ D.Mv (FW F W) (FW F' W) w w' ∧ ¬ F' W := by
  have hmf : ∀ (fn : Fn) (first cap : Array Value) (w : World), (Instr.makeFunc fn first cap).run Try.prog w = .ok (.func fn first cap) w := fun _ _ _ _ => rfl
  have HD := hide h
  obtain ⟨R, hR⟩ : ∃ R, Wl.powered d ws (r.1, r.2, wsAfter r.1 ws ws1) = R := ⟨_, rfl⟩
  rw [hR]
  obtain ⟨⟨num, half, sn, lg⟩, rc, gone⟩ := ws
  cases gone with
  | true =>
    have HR : Hid (R = (2, d, ⟨⟨num, half, sn, lg⟩, rc, true⟩)) := hide (by rw [← hR]; exact if_pos (.inl rfl))
    clear hR HC
    have H3 := hide (three (w := w) (a := .cells #[.pointer (some ⟨W, 0, none⟩)] 25) (b := .cells #[.int .i64 0] 30) (c := .cells #[.pointer (some ⟨b, 0, none⟩), .int .u64 (num : Int), .int .u8 (half : Int), .int .i64 (sn : Int), .int .i64 (lg : Int), .int .i64 (rc : Int), .bool true] 56)).2
    have HB1 := hide (bel3 w (.cells #[.pointer (some ⟨W, 0, none⟩)] 25) (.cells #[.int .i64 0] 30) (.cells #[.pointer (some ⟨b, 0, none⟩), .int .u64 (num : Int), .int .u8 (half : Int), .int .i64 (sn : Int), .int .i64 (lg : Int), .int .i64 (rc : Int), .bool true] 56))
    have HWm1 : Hid (Wm (((w.alloc (.cells #[.pointer (some ⟨W, 0, none⟩)] 25)).alloc (.cells #[.int .i64 0] 30)).alloc (.cells #[.pointer (some ⟨b, 0, none⟩), .int .u64 (num : Int), .int .u8 (half : Int), .int .i64 (sn : Int), .int .i64 (lg : Int), .int .i64 (rc : Int), .bool true] 56)) W b ⟨⟨num, half, sn, lg⟩, rc, true⟩) := hide (hw.below HB1.out)
    have HX2 : Hid (Wm (((w.alloc (.cells #[.pointer (some ⟨W, 0, none⟩)] 25)).alloc (.cells #[.int .i64 0] 30)).alloc (.cells #[.pointer (some ⟨b, 0, none⟩), .int .u64 (num : Int), .int .u8 (half : Int), .int .i64 (sn : Int), .int .i64 (lg : Int), .int .i64 (rc : Int), .bool true] 56)) (w.heap.size + 2) b ⟨⟨num, half, sn, lg⟩, rc, true⟩) := hide H3.out.2.2
    have HD1 := hide (h.below HB1.out)
    obtain ⟨c0, c1, c2, c3, c4, c5, c6, cz⟩ := wm_cells hw
    simp only at c0 c1 c2 c3 c4 c5 c6
    have hWl := lt_of_block hw
    have e0 : (((w.alloc (.cells #[.pointer (some ⟨W, 0, none⟩)] 25)).alloc (.cells #[.int .i64 0] 30)).alloc (.cells #[.pointer (some ⟨b, 0, none⟩), .int .u64 (num : Int), .int .u8 (half : Int), .int .i64 (sn : Int), .int .i64 (lg : Int), .int .i64 (rc : Int), .bool true] 56)).cell? ⟨w.heap.size, 0, none⟩ = some (.pointer (some ⟨W, 0, none⟩)) := by unfold World.cell?; rw [show _ = _ from H3.out.1]; rfl
    have e1 : (((w.alloc (.cells #[.pointer (some ⟨W, 0, none⟩)] 25)).alloc (.cells #[.int .i64 0] 30)).alloc (.cells #[.pointer (some ⟨b, 0, none⟩), .int .u64 (num : Int), .int .u8 (half : Int), .int .i64 (sn : Int), .int .i64 (lg : Int), .int .i64 (rc : Int), .bool true] 56)).cell? ⟨w.heap.size + 1, 0, none⟩ = some (.int .i64 0) := by unfold World.cell?; rw [show _ = _ from H3.out.2.1]; rfl
    have z1 : (((w.alloc (.cells #[.pointer (some ⟨W, 0, none⟩)] 25)).alloc (.cells #[.int .i64 0] 30)).alloc (.cells #[.pointer (some ⟨b, 0, none⟩), .int .u64 (num : Int), .int .u8 (half : Int), .int .i64 (sn : Int), .int .i64 (lg : Int), .int .i64 (rc : Int), .bool true] 56)).frozen? ⟨w.heap.size + 1, 0, none⟩ = false := by unfold World.frozen?; rw [show _ = _ from H3.out.2.1]; simp
    obtain ⟨d0, d1, d2, d3, d4, d5, d6, dz⟩ := wm_cells HWm1.out
    simp only at d0 d1 d2 d3 d4 d5 d6
    go_enter_defers Try.func20, Try.ntmps20
    go_wp2_with fail
    have H4 := hide (three (w := w) (a := .cells #[.pointer (some ⟨W, 0, none⟩)] 25) (b := .cells #[.int .i64 2] 30) (c := .cells #[.pointer (some ⟨b, 0, none⟩), .int .u64 (num : Int), .int .u8 (half : Int), .int .i64 (sn : Int), .int .i64 (lg : Int), .int .i64 (rc : Int), .bool true] 56)).2
    have HB4 := hide (bel3 w (.cells #[.pointer (some ⟨W, 0, none⟩)] 25) (.cells #[.int .i64 2] 30) (.cells #[.pointer (some ⟨b, 0, none⟩), .int .u64 (num : Int), .int .u8 (half : Int), .int .i64 (sn : Int), .int .i64 (lg : Int), .int .i64 (rc : Int), .bool true] 56))
    have hc2 : (((w.alloc (.cells #[.pointer (some ⟨W, 0, none⟩)] 25)).alloc (.cells #[.int .i64 2] 30)).alloc (.cells #[.pointer (some ⟨b, 0, none⟩), .int .u64 (num : Int), .int .u8 (half : Int), .int .i64 (sn : Int), .int .i64 (lg : Int), .int .i64 (rc : Int), .bool true] 56)).cell? ⟨w.heap.size + 1, 0, none⟩ = some (.int .i64 2) := by unfold World.cell?; rw [show _ = _ from H4.out.2.1]; rfl
    have hc0 : (((w.alloc (.cells #[.pointer (some ⟨W, 0, none⟩)] 25)).alloc (.cells #[.int .i64 2] 30)).alloc (.cells #[.pointer (some ⟨b, 0, none⟩), .int .u64 (num : Int), .int .u8 (half : Int), .int .i64 (sn : Int), .int .i64 (lg : Int), .int .i64 (rc : Int), .bool true] 56)).cell? ⟨w.heap.size, 0, none⟩ = some (.pointer (some ⟨W, 0, none⟩)) := by unfold World.cell?; rw [show _ = _ from H4.out.1]; rfl
    have hcB : Wm (((w.alloc (.cells #[.pointer (some ⟨W, 0, none⟩)] 25)).alloc (.cells #[.int .i64 2] 30)).alloc (.cells #[.pointer (some ⟨b, 0, none⟩), .int .u64 (num : Int), .int .u8 (half : Int), .int .i64 (sn : Int), .int .i64 (lg : Int), .int .i64 (rc : Int), .bool true] 56)) (w.heap.size + 2) b ⟨⟨num, half, sn, lg⟩, rc, true⟩ := H4.out.2.2
    have hcW : Wm (((w.alloc (.cells #[.pointer (some ⟨W, 0, none⟩)] 25)).alloc (.cells #[.int .i64 2] 30)).alloc (.cells #[.pointer (some ⟨b, 0, none⟩), .int .u64 (num : Int), .int .u8 (half : Int), .int .i64 (sn : Int), .int .i64 (lg : Int), .int .i64 (rc : Int), .bool true] 56)) W b ⟨⟨num, half, sn, lg⟩, rc, true⟩ := hw.below HB4.out
    have HPd := hide (powered1_any hc2 hcB hc0 hcW (by omega) (by omega) (by omega))
    have HBs : Hid (D.Mv (FW F W) (FW F W) w (((w.alloc (.cells #[.pointer (some ⟨W, 0, none⟩)] 25)).alloc (.cells #[.int .i64 2] 30)).alloc (.cells #[.pointer (some ⟨b, 0, none⟩), .int .u64 (num : Int), .int .u8 (half : Int), .int .i64 (sn : Int), .int .i64 (lg : Int), .int .i64 (rc : Int), .bool true] 56))) := hide (D.Mv.of_below HB4.out)
    have HDs : Hid (D.Dk base (((w.alloc (.cells #[.pointer (some ⟨W, 0, none⟩)] 25)).alloc (.cells #[.int .i64 2] 30)).alloc (.cells #[.pointer (some ⟨b, 0, none⟩), .int .u64 (num : Int), .int .u8 (half : Int), .int .i64 (sn : Int), .int .i64 (lg : Int), .int .i64 (rc : Int), .bool true] 56)) b F d) := hide (HD.out.below HB4.out)
    clear hc0 hcB hcW d0 d1 d2 d3 d4 d5 d6 dz c0 c1 c2 c3 c4 c5 c6 cz H3 e0 e1 z1 HWm1 HX2 HD1
    refine leaves_cons (f := 33) (args := #[.pointer (some ⟨w.heap.size + 1, 0, none⟩), .pointer (some ⟨w.heap.size + 2, 0, none⟩), .pointer (some ⟨w.heap.size, 0, none⟩)]) (by simp) (by simp [go_sem]) ?_
    refine HPd.out.mono ?_
    rintro e u' w9 ⟨rfl, rfl, hW9, hO9⟩
    have c9 : w9.cell? ⟨w.heap.size + 1, 0, none⟩ = some (.int .i64 2) := by
      unfold World.cell? at hc2 ⊢; rw [show w9.heap[(⟨w.heap.size + 1, 0, none⟩ : Addr).block]? = _ from hO9.block _ (show w.heap.size + 1 ≠ W by omega)]; exact hc2
    simp [Leaves, settle, results, Try.results20, go_sem, c9]
    exact ⟨by rw [HR.out], by rw [HR.out]; exact hW9, F, by rw [HR.out]; exact HDs.out.keep fun k hk => hO9.block k (fun e => hFW (e ▸ hk)), mv_onl HBs.out hO9, hFW⟩
  | false =>
    cases hdd : d.dead with
    | true =>
      have HR : Hid (R = (2, d, ⟨⟨num, half, sn, lg⟩, rc, true⟩)) := hide (by rw [← hR]; exact if_pos (.inr hdd))
      clear hR HC
      have H3 := hide (three (w := w) (a := .cells #[.pointer (some ⟨W, 0, none⟩)] 25) (b := .cells #[.int .i64 0] 30) (c := .cells #[.pointer (some ⟨b, 0, none⟩), .int .u64 (num : Int), .int .u8 (half : Int), .int .i64 (sn : Int), .int .i64 (lg : Int), .int .i64 (rc : Int), .bool false] 56)).2
      have HB1 := hide (bel3 w (.cells #[.pointer (some ⟨W, 0, none⟩)] 25) (.cells #[.int .i64 0] 30) (.cells #[.pointer (some ⟨b, 0, none⟩), .int .u64 (num : Int), .int .u8 (half : Int), .int .i64 (sn : Int), .int .i64 (lg : Int), .int .i64 (rc : Int), .bool false] 56))
      have HWm1 : Hid (Wm (((w.alloc (.cells #[.pointer (some ⟨W, 0, none⟩)] 25)).alloc (.cells #[.int .i64 0] 30)).alloc (.cells #[.pointer (some ⟨b, 0, none⟩), .int .u64 (num : Int), .int .u8 (half : Int), .int .i64 (sn : Int), .int .i64 (lg : Int), .int .i64 (rc : Int), .bool false] 56)) W b ⟨⟨num, half, sn, lg⟩, rc, false⟩) := hide (hw.below HB1.out)
      have HX2 : Hid (Wm (((w.alloc (.cells #[.pointer (some ⟨W, 0, none⟩)] 25)).alloc (.cells #[.int .i64 0] 30)).alloc (.cells #[.pointer (some ⟨b, 0, none⟩), .int .u64 (num : Int), .int .u8 (half : Int), .int .i64 (sn : Int), .int .i64 (lg : Int), .int .i64 (rc : Int), .bool false] 56)) (w.heap.size + 2) b ⟨⟨num, half, sn, lg⟩, rc, false⟩) := hide H3.out.2.2
      have HD1 := hide (h.below HB1.out)
      obtain ⟨c0, c1, c2, c3, c4, c5, c6, cz⟩ := wm_cells hw
      simp only at c0 c1 c2 c3 c4 c5 c6
      have hWl := lt_of_block hw
      have e0 : (((w.alloc (.cells #[.pointer (some ⟨W, 0, none⟩)] 25)).alloc (.cells #[.int .i64 0] 30)).alloc (.cells #[.pointer (some ⟨b, 0, none⟩), .int .u64 (num : Int), .int .u8 (half : Int), .int .i64 (sn : Int), .int .i64 (lg : Int), .int .i64 (rc : Int), .bool false] 56)).cell? ⟨w.heap.size, 0, none⟩ = some (.pointer (some ⟨W, 0, none⟩)) := by unfold World.cell?; rw [show _ = _ from H3.out.1]; rfl
      have e1 : (((w.alloc (.cells #[.pointer (some ⟨W, 0, none⟩)] 25)).alloc (.cells #[.int .i64 0] 30)).alloc (.cells #[.pointer (some ⟨b, 0, none⟩), .int .u64 (num : Int), .int .u8 (half : Int), .int .i64 (sn : Int), .int .i64 (lg : Int), .int .i64 (rc : Int), .bool false] 56)).cell? ⟨w.heap.size + 1, 0, none⟩ = some (.int .i64 0) := by unfold World.cell?; rw [show _ = _ from H3.out.2.1]; rfl
      have z1 : (((w.alloc (.cells #[.pointer (some ⟨W, 0, none⟩)] 25)).alloc (.cells #[.int .i64 0] 30)).alloc (.cells #[.pointer (some ⟨b, 0, none⟩), .int .u64 (num : Int), .int .u8 (half : Int), .int .i64 (sn : Int), .int .i64 (lg : Int), .int .i64 (rc : Int), .bool false] 56)).frozen? ⟨w.heap.size + 1, 0, none⟩ = false := by unfold World.frozen?; rw [show _ = _ from H3.out.2.1]; simp
      obtain ⟨d0, d1, d2, d3, d4, d5, d6, dz⟩ := wm_cells HWm1.out
      simp only at d0 d1 d2 d3 d4 d5 d6
      have HDe := hide (D.dead_any HD1.out)
      rw [hdd] at HDe
      go_enter_defers Try.func20, Try.ntmps20
      go_wp2_with fail
      refine HDe.out.mono ?_
      rintro e w' ⟨rfl, rfl⟩
      go_wp2_with fail
      have H4 := hide (three (w := w) (a := .cells #[.pointer (some ⟨W, 0, none⟩)] 25) (b := .cells #[.int .i64 2] 30) (c := .cells #[.pointer (some ⟨b, 0, none⟩), .int .u64 (num : Int), .int .u8 (half : Int), .int .i64 (sn : Int), .int .i64 (lg : Int), .int .i64 (rc : Int), .bool false] 56)).2
      have HB4 := hide (bel3 w (.cells #[.pointer (some ⟨W, 0, none⟩)] 25) (.cells #[.int .i64 2] 30) (.cells #[.pointer (some ⟨b, 0, none⟩), .int .u64 (num : Int), .int .u8 (half : Int), .int .i64 (sn : Int), .int .i64 (lg : Int), .int .i64 (rc : Int), .bool false] 56))
      have hc2 : (((w.alloc (.cells #[.pointer (some ⟨W, 0, none⟩)] 25)).alloc (.cells #[.int .i64 2] 30)).alloc (.cells #[.pointer (some ⟨b, 0, none⟩), .int .u64 (num : Int), .int .u8 (half : Int), .int .i64 (sn : Int), .int .i64 (lg : Int), .int .i64 (rc : Int), .bool false] 56)).cell? ⟨w.heap.size + 1, 0, none⟩ = some (.int .i64 2) := by unfold World.cell?; rw [show _ = _ from H4.out.2.1]; rfl
      have hc0 : (((w.alloc (.cells #[.pointer (some ⟨W, 0, none⟩)] 25)).alloc (.cells #[.int .i64 2] 30)).alloc (.cells #[.pointer (some ⟨b, 0, none⟩), .int .u64 (num : Int), .int .u8 (half : Int), .int .i64 (sn : Int), .int .i64 (lg : Int), .int .i64 (rc : Int), .bool false] 56)).cell? ⟨w.heap.size, 0, none⟩ = some (.pointer (some ⟨W, 0, none⟩)) := by unfold World.cell?; rw [show _ = _ from H4.out.1]; rfl
      have hcB : Wm (((w.alloc (.cells #[.pointer (some ⟨W, 0, none⟩)] 25)).alloc (.cells #[.int .i64 2] 30)).alloc (.cells #[.pointer (some ⟨b, 0, none⟩), .int .u64 (num : Int), .int .u8 (half : Int), .int .i64 (sn : Int), .int .i64 (lg : Int), .int .i64 (rc : Int), .bool false] 56)) (w.heap.size + 2) b ⟨⟨num, half, sn, lg⟩, rc, false⟩ := H4.out.2.2
      have hcW : Wm (((w.alloc (.cells #[.pointer (some ⟨W, 0, none⟩)] 25)).alloc (.cells #[.int .i64 2] 30)).alloc (.cells #[.pointer (some ⟨b, 0, none⟩), .int .u64 (num : Int), .int .u8 (half : Int), .int .i64 (sn : Int), .int .i64 (lg : Int), .int .i64 (rc : Int), .bool false] 56)) W b ⟨⟨num, half, sn, lg⟩, rc, false⟩ := hw.below HB4.out
      have HPd := hide (powered1_any hc2 hcB hc0 hcW (by omega) (by omega) (by omega))
      have HBs : Hid (D.Mv (FW F W) (FW F W) w (((w.alloc (.cells #[.pointer (some ⟨W, 0, none⟩)] 25)).alloc (.cells #[.int .i64 2] 30)).alloc (.cells #[.pointer (some ⟨b, 0, none⟩), .int .u64 (num : Int), .int .u8 (half : Int), .int .i64 (sn : Int), .int .i64 (lg : Int), .int .i64 (rc : Int), .bool false] 56))) := hide (D.Mv.of_below HB4.out)
      have HDs : Hid (D.Dk base (((w.alloc (.cells #[.pointer (some ⟨W, 0, none⟩)] 25)).alloc (.cells #[.int .i64 2] 30)).alloc (.cells #[.pointer (some ⟨b, 0, none⟩), .int .u64 (num : Int), .int .u8 (half : Int), .int .i64 (sn : Int), .int .i64 (lg : Int), .int .i64 (rc : Int), .bool false] 56)) b F d) := hide (HD.out.below HB4.out)
      clear hc0 hcB hcW d0 d1 d2 d3 d4 d5 d6 dz c0 c1 c2 c3 c4 c5 c6 cz H3 e0 e1 z1 HWm1 HX2 HD1
      refine leaves_cons (f := 33) (args := #[.pointer (some ⟨w.heap.size + 1, 0, none⟩), .pointer (some ⟨w.heap.size + 2, 0, none⟩), .pointer (some ⟨w.heap.size, 0, none⟩)]) (by simp) (by simp [go_sem]) ?_
      refine HPd.out.mono ?_
      rintro e u' w9 ⟨rfl, rfl, hW9, hO9⟩
      have c9 : w9.cell? ⟨w.heap.size + 1, 0, none⟩ = some (.int .i64 2) := by
        unfold World.cell? at hc2 ⊢; rw [show w9.heap[(⟨w.heap.size + 1, 0, none⟩ : Addr).block]? = _ from hO9.block _ (show w.heap.size + 1 ≠ W by omega)]; exact hc2
      simp [Leaves, settle, results, Try.results20, go_sem, c9]
      exact ⟨by rw [HR.out], by rw [HR.out]; exact hW9, F, by rw [HR.out]; exact HDs.out.keep fun k hk => hO9.block k (fun e => hFW (e ▸ hk)), mv_onl HBs.out hO9, hFW⟩
    | false =>
      have HR : Hid (R = (r.1, r.2, wsAfter r.1 ⟨⟨num, half, sn, lg⟩, rc, false⟩ ws1)) := hide (by rw [← hR]; exact if_neg (by simp [hdd]))
      clear hR
      have H3 := hide (three (w := w) (a := .cells #[.pointer (some ⟨W, 0, none⟩)] 25) (b := .cells #[.int .i64 0] 30) (c := .cells #[.pointer (some ⟨b, 0, none⟩), .int .u64 (num : Int), .int .u8 (half : Int), .int .i64 (sn : Int), .int .i64 (lg : Int), .int .i64 (rc : Int), .bool false] 56)).2
      have HB1 := hide (bel3 w (.cells #[.pointer (some ⟨W, 0, none⟩)] 25) (.cells #[.int .i64 0] 30) (.cells #[.pointer (some ⟨b, 0, none⟩), .int .u64 (num : Int), .int .u8 (half : Int), .int .i64 (sn : Int), .int .i64 (lg : Int), .int .i64 (rc : Int), .bool false] 56))
      have HWm1 : Hid (Wm (((w.alloc (.cells #[.pointer (some ⟨W, 0, none⟩)] 25)).alloc (.cells #[.int .i64 0] 30)).alloc (.cells #[.pointer (some ⟨b, 0, none⟩), .int .u64 (num : Int), .int .u8 (half : Int), .int .i64 (sn : Int), .int .i64 (lg : Int), .int .i64 (rc : Int), .bool false] 56)) W b ⟨⟨num, half, sn, lg⟩, rc, false⟩) := hide (hw.below HB1.out)
      have HX2 : Hid (Wm (((w.alloc (.cells #[.pointer (some ⟨W, 0, none⟩)] 25)).alloc (.cells #[.int .i64 0] 30)).alloc (.cells #[.pointer (some ⟨b, 0, none⟩), .int .u64 (num : Int), .int .u8 (half : Int), .int .i64 (sn : Int), .int .i64 (lg : Int), .int .i64 (rc : Int), .bool false] 56)) (w.heap.size + 2) b ⟨⟨num, half, sn, lg⟩, rc, false⟩) := hide H3.out.2.2
      have HD1 := hide (h.below HB1.out)
      obtain ⟨c0, c1, c2, c3, c4, c5, c6, cz⟩ := wm_cells hw
      simp only at c0 c1 c2 c3 c4 c5 c6
      have hWl := lt_of_block hw
      have e0 : (((w.alloc (.cells #[.pointer (some ⟨W, 0, none⟩)] 25)).alloc (.cells #[.int .i64 0] 30)).alloc (.cells #[.pointer (some ⟨b, 0, none⟩), .int .u64 (num : Int), .int .u8 (half : Int), .int .i64 (sn : Int), .int .i64 (lg : Int), .int .i64 (rc : Int), .bool false] 56)).cell? ⟨w.heap.size, 0, none⟩ = some (.pointer (some ⟨W, 0, none⟩)) := by unfold World.cell?; rw [show _ = _ from H3.out.1]; rfl
      have e1 : (((w.alloc (.cells #[.pointer (some ⟨W, 0, none⟩)] 25)).alloc (.cells #[.int .i64 0] 30)).alloc (.cells #[.pointer (some ⟨b, 0, none⟩), .int .u64 (num : Int), .int .u8 (half : Int), .int .i64 (sn : Int), .int .i64 (lg : Int), .int .i64 (rc : Int), .bool false] 56)).cell? ⟨w.heap.size + 1, 0, none⟩ = some (.int .i64 0) := by unfold World.cell?; rw [show _ = _ from H3.out.2.1]; rfl
      have z1 : (((w.alloc (.cells #[.pointer (some ⟨W, 0, none⟩)] 25)).alloc (.cells #[.int .i64 0] 30)).alloc (.cells #[.pointer (some ⟨b, 0, none⟩), .int .u64 (num : Int), .int .u8 (half : Int), .int .i64 (sn : Int), .int .i64 (lg : Int), .int .i64 (rc : Int), .bool false] 56)).frozen? ⟨w.heap.size + 1, 0, none⟩ = false := by unfold World.frozen?; rw [show _ = _ from H3.out.2.1]; simp
      obtain ⟨d0, d1, d2, d3, d4, d5, d6, dz⟩ := wm_cells HWm1.out
      simp only at d0 d1 d2 d3 d4 d5 d6
      have HDe := hide (D.dead_any HD1.out)
      rw [hdd] at HDe
      have HCa := hide (HC.out hdd rfl _ HB1.out)
      obtain ⟨re, rd⟩ := r
      simp only at HCa HR
      clear HC
      go_enter_defers Try.func20, Try.ntmps20
      go_wp2_with fail
      refine HDe.out.mono ?_
      rintro e w' ⟨rfl, rfl⟩
      go_wp2_with fail
      refine HCa.out.mono ?_
      rintro e w2 ⟨rfl, hW2, F', hD2, hM2, hnF⟩
      have hn0 : ¬ FW F W w.heap.size := fun k => by rcases k with k | k; exact absurd (HD.out.ftlt _ k).2 (Nat.lt_irrefl _); omega
      have hn1 : ¬ FW F W (w.heap.size + 1) := fun k => by rcases k with k | k; exact absurd (HD.out.ftlt _ k).2 (by omega); omega
      have hn2 : ¬ FW F W (w.heap.size + 2) := fun k => by rcases k with k | k; exact absurd (HD.out.ftlt _ k).2 (by omega); omega
      have b0 := (hM2.block _ (lt_of_block H3.out.1) hn0).trans H3.out.1
      have b1 := (hM2.block _ (lt_of_block H3.out.2.1) hn1).trans H3.out.2.1
      have b2 := (hM2.block _ (lt_of_block H3.out.2.2) hn2).trans H3.out.2.2
      have k1 : w2.cell? ⟨w.heap.size + 1, 0, none⟩ = some (.int .i64 0) := by unfold World.cell?; rw [show _ = _ from b1]; rfl
      have y1 : w2.frozen? ⟨w.heap.size + 1, 0, none⟩ = false := by unfold World.frozen?; rw [show _ = _ from b1]; simp
      have k0 : w2.cell? ⟨w.heap.size, 0, none⟩ = some (.pointer (some ⟨W, 0, none⟩)) := by unfold World.cell?; rw [show _ = _ from b0]; rfl
      have hc2 : (w2.setCell ⟨w.heap.size + 1, 0, none⟩ (.int .i64 re)).cell? ⟨w.heap.size + 1, 0, none⟩ = some (.int .i64 re) := World.cell?_setCell_same _ _ _ k1
      have hc0 : (w2.setCell ⟨w.heap.size + 1, 0, none⟩ (.int .i64 re)).cell? ⟨w.heap.size, 0, none⟩ = some (.pointer (some ⟨W, 0, none⟩)) := (World.cell?_setCell_far _ _ _ _ (by simp)).trans k0
      have hcB : Wm (w2.setCell ⟨w.heap.size + 1, 0, none⟩ (.int .i64 re)) (w.heap.size + 2) b ⟨⟨num, half, sn, lg⟩, rc, false⟩ := (Below.heap_setCell _ _ _ _ (by simp)).trans b2
      have hcW : Wm (w2.setCell ⟨w.heap.size + 1, 0, none⟩ (.int .i64 re)) W b ws1 := (Below.heap_setCell _ _ _ _ (show W ≠ w.heap.size + 1 by omega)).trans hW2
      have HPd := hide (powered1_any hc2 hcB hc0 hcW (by omega) (by omega) (by omega))
      have HBs : Hid (D.Mv (FW F W) (FW F' W) w (w2.setCell ⟨w.heap.size + 1, 0, none⟩ (.int .i64 re))) := hide (mv_set ((D.Mv.of_below HB1.out).trans hM2) (by simp))
      have hF1 : ∀ k, F' k → k ≠ w.heap.size + 1 ∧ k ≠ W := fun k hk => by
        refine ⟨?_, fun e => hnF (e ▸ hk)⟩
        rcases hM2.foot k (.inl hk) with (h5 | h5) | h5
        · have := (HD.out.ftlt k h5).2; omega
        · omega
        · simp only [World.size_alloc] at h5; omega
      have HDs : Hid (D.Dk base (w2.setCell ⟨w.heap.size + 1, 0, none⟩ (.int .i64 re)) b F' rd) := hide (hD2.keep fun k hk => Below.heap_setCell _ _ _ _ (hF1 k hk).1)
      clear hc0 hcB hcW d0 d1 d2 d3 d4 d5 d6 dz c0 c1 c2 c3 c4 c5 c6 cz H3 e0 e1 z1 HWm1 HX2 HD1 hM2 hD2 hW2 b0 b1 b2 HDe HCa
      go_wp2_with fail
      refine leaves_cons (f := 33) (args := #[.pointer (some ⟨w.heap.size + 1, 0, none⟩), .pointer (some ⟨w.heap.size + 2, 0, none⟩), .pointer (some ⟨w.heap.size, 0, none⟩)]) (by simp) (by simp [go_sem]) ?_
      refine HPd.out.mono ?_
      rintro e u' w9 ⟨rfl, rfl, hW9, hO9⟩
      have c9 : w9.cell? ⟨w.heap.size + 1, 0, none⟩ = some (.int .i64 re) := by
        unfold World.cell? at hc2 ⊢; rw [show w9.heap[(⟨w.heap.size + 1, 0, none⟩ : Addr).block]? = _ from hO9.block _ (show w.heap.size + 1 ≠ W by omega)]; exact hc2
      simp [Leaves, settle, results, Try.results20, go_sem, c9]
      exact ⟨by rw [HR.out], by rw [HR.out]; exact hW9, F', by rw [HR.out]; exact HDs.out.keep fun k hk => hO9.block k (hF1 k hk).2, mv_onl HBs.out hO9, hnF⟩
end Go.Proofs.Yteiickpokabmoab
