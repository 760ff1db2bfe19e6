import Derived.Test.YtojghjgbnnkldaaMgAO
import Derived.Test.YtojghjgbnnkldaaMgAQ
import Derived.Test.YtojghjgbnnkldaaMgAN
import Derived.Test.YtojghjgbnnkldaaMgAP

section
namespace Go.Proofs.Ytojghjgbnnkldaa
open Go.RowKit Go.Shelf
open Wl (Hd WS Log)

set_option maxHeartbeats 2000000 in
set_option maxRecDepth 8000 in
theorem powered_S {base : Nat} {w : World} {b W p1 p2 : Nat} {F : Nat → Prop} {d : D.DS} {ws ws1 : WS} {r : Int × D.DS} (h : D.Dk base w b F d) (hw : Wm w W b ws) (hFW : ¬ F W)
    (HC : Hid (d.dead = false → ws.gone = false → ∀ V, Below w.heap.size w V → Calls Try.prog 34 #[.pointer (some ⟨p1, 0, none⟩), .pointer (some ⟨p2, 0, none⟩)] V fun e w' => e = .returned (.int .i64 r.1) ∧ Wm w' W b ws1 ∧ ∃ F', D.Dk base w' b F' r.2 ∧ D.Mv (FW F W) (FW F' W) V w' ∧ ¬ F' W)) :
    Calls Try.prog 33 #[.pointer (some ⟨W, 0, none⟩), .func (.func 34) #[] #[.pointer (some ⟨p1, 0, none⟩), .pointer (some ⟨p2, 0, none⟩)]] w fun e w' => e = .returned (.int .i64 (Wl.powered d ws (r.1, r.2, wsAfter r.1 ws ws1)).1) ∧ Wm w' W b (Wl.powered d ws (r.1, r.2, wsAfter r.1 ws ws1)).2.2 ∧ ∃ F', D.Dk base w' b F' (Wl.powered d ws (r.1, r.2, wsAfter r.1 ws ws1)).2.1 ∧ D.Mv (FW F W) (FW F' W) w w' ∧ ¬ F' W := by
  have hmf : ∀ (fn : Fn) (first cap : Array Value) (w : World), (Instr.makeFunc fn first cap).run Try.prog w = .ok (.func fn first cap) w := fun _ _ _ _ => rfl
  have HD := hide h
  obtain ⟨R, hR⟩ : ∃ R, Wl.powered d ws (r.1, r.2, wsAfter r.1 ws ws1) = R := ⟨_, rfl⟩
  rw [hR]
  obtain ⟨⟨num, half, sn, lg⟩, rc, gone⟩ := ws
  cases gone with
  | true =>
    have HR : Hid (R = (2, d, ⟨⟨num, half, sn, lg⟩, rc, true⟩)) := hide (by rw [← hR]; exact if_pos (.inl rfl))
    clear hR HC
    have H3 := hide (three (w := w) (a := .cells #[.pointer (some ⟨W, 0, none⟩)] 35) (b := .cells #[.int .i64 0] 25) (c := .cells #[.pointer (some ⟨b, 0, none⟩), .int .u64 (num : Int), .int .u8 (half : Int), .int .i64 (sn : Int), .int .i64 (lg : Int), .int .i64 (rc : Int), .bool true] 72)).2
    have HB1 := hide (bel3 w (.cells #[.pointer (some ⟨W, 0, none⟩)] 35) (.cells #[.int .i64 0] 25) (.cells #[.pointer (some ⟨b, 0, none⟩), .int .u64 (num : Int), .int .u8 (half : Int), .int .i64 (sn : Int), .int .i64 (lg : Int), .int .i64 (rc : Int), .bool true] 72))
    have HWm1 : Hid (Wm (((w.alloc (.cells #[.pointer (some ⟨W, 0, none⟩)] 35)).alloc (.cells #[.int .i64 0] 25)).alloc (.cells #[.pointer (some ⟨b, 0, none⟩), .int .u64 (num : Int), .int .u8 (half : Int), .int .i64 (sn : Int), .int .i64 (lg : Int), .int .i64 (rc : Int), .bool true] 72)) W b ⟨⟨num, half, sn, lg⟩, rc, true⟩) := hide (hw.below HB1.out)
    have HX2 : Hid (Wm (((w.alloc (.cells #[.pointer (some ⟨W, 0, none⟩)] 35)).alloc (.cells #[.int .i64 0] 25)).alloc (.cells #[.pointer (some ⟨b, 0, none⟩), .int .u64 (num : Int), .int .u8 (half : Int), .int .i64 (sn : Int), .int .i64 (lg : Int), .int .i64 (rc : Int), .bool true] 72)) (w.heap.size + 2) b ⟨⟨num, half, sn, lg⟩, rc, true⟩) := hide H3.out.2.2
    have HD1 := hide (h.below HB1.out)
    obtain ⟨c0, c1, c2, c3, c4, c5, c6, cz⟩ := wm_cells hw
    simp only at c0 c1 c2 c3 c4 c5 c6
    have hWl := lt_of_block hw
    have e0 : (((w.alloc (.cells #[.pointer (some ⟨W, 0, none⟩)] 35)).alloc (.cells #[.int .i64 0] 25)).alloc (.cells #[.pointer (some ⟨b, 0, none⟩), .int .u64 (num : Int), .int .u8 (half : Int), .int .i64 (sn : Int), .int .i64 (lg : Int), .int .i64 (rc : Int), .bool true] 72)).cell? ⟨w.heap.size, 0, none⟩ = some (.pointer (some ⟨W, 0, none⟩)) := by unfold World.cell?; rw [show _ = _ from H3.out.1]; rfl
    have e1 : (((w.alloc (.cells #[.pointer (some ⟨W, 0, none⟩)] 35)).alloc (.cells #[.int .i64 0] 25)).alloc (.cells #[.pointer (some ⟨b, 0, none⟩), .int .u64 (num : Int), .int .u8 (half : Int), .int .i64 (sn : Int), .int .i64 (lg : Int), .int .i64 (rc : Int), .bool true] 72)).cell? ⟨w.heap.size + 1, 0, none⟩ = some (.int .i64 0) := by unfold World.cell?; rw [show _ = _ from H3.out.2.1]; rfl
    have z1 : (((w.alloc (.cells #[.pointer (some ⟨W, 0, none⟩)] 35)).alloc (.cells #[.int .i64 0] 25)).alloc (.cells #[.pointer (some ⟨b, 0, none⟩), .int .u64 (num : Int), .int .u8 (half : Int), .int .i64 (sn : Int), .int .i64 (lg : Int), .int .i64 (rc : Int), .bool true] 72)).frozen? ⟨w.heap.size + 1, 0, none⟩ = false := by unfold World.frozen?; rw [show _ = _ from H3.out.2.1]; simp
    obtain ⟨d0, d1, d2, d3, d4, d5, d6, dz⟩ := wm_cells HWm1.out
    simp only at d0 d1 d2 d3 d4 d5 d6
    go_enter_defers Try.func33, Try.ntmps33
    go_wp2_with fail
    have H4 := hide (three (w := w) (a := .cells #[.pointer (some ⟨W, 0, none⟩)] 35) (b := .cells #[.int .i64 2] 25) (c := .cells #[.pointer (some ⟨b, 0, none⟩), .int .u64 (num : Int), .int .u8 (half : Int), .int .i64 (sn : Int), .int .i64 (lg : Int), .int .i64 (rc : Int), .bool true] 72)).2
    have HB4 := hide (bel3 w (.cells #[.pointer (some ⟨W, 0, none⟩)] 35) (.cells #[.int .i64 2] 25) (.cells #[.pointer (some ⟨b, 0, none⟩), .int .u64 (num : Int), .int .u8 (half : Int), .int .i64 (sn : Int), .int .i64 (lg : Int), .int .i64 (rc : Int), .bool true] 72))
    have hc2 : (((w.alloc (.cells #[.pointer (some ⟨W, 0, none⟩)] 35)).alloc (.cells #[.int .i64 2] 25)).alloc (.cells #[.pointer (some ⟨b, 0, none⟩), .int .u64 (num : Int), .int .u8 (half : Int), .int .i64 (sn : Int), .int .i64 (lg : Int), .int .i64 (rc : Int), .bool true] 72)).cell? ⟨w.heap.size + 1, 0, none⟩ = some (.int .i64 2) := by unfold World.cell?; rw [show _ = _ from H4.out.2.1]; rfl
    have hc0 : (((w.alloc (.cells #[.pointer (some ⟨W, 0, none⟩)] 35)).alloc (.cells #[.int .i64 2] 25)).alloc (.cells #[.pointer (some ⟨b, 0, none⟩), .int .u64 (num : Int), .int .u8 (half : Int), .int .i64 (sn : Int), .int .i64 (lg : Int), .int .i64 (rc : Int), .bool true] 72)).cell? ⟨w.heap.size, 0, none⟩ = some (.pointer (some ⟨W, 0, none⟩)) := by unfold World.cell?; rw [show _ = _ from H4.out.1]; rfl
    have hcB : Wm (((w.alloc (.cells #[.pointer (some ⟨W, 0, none⟩)] 35)).alloc (.cells #[.int .i64 2] 25)).alloc (.cells #[.pointer (some ⟨b, 0, none⟩), .int .u64 (num : Int), .int .u8 (half : Int), .int .i64 (sn : Int), .int .i64 (lg : Int), .int .i64 (rc : Int), .bool true] 72)) (w.heap.size + 2) b ⟨⟨num, half, sn, lg⟩, rc, true⟩ := H4.out.2.2
    have hcW : Wm (((w.alloc (.cells #[.pointer (some ⟨W, 0, none⟩)] 35)).alloc (.cells #[.int .i64 2] 25)).alloc (.cells #[.pointer (some ⟨b, 0, none⟩), .int .u64 (num : Int), .int .u8 (half : Int), .int .i64 (sn : Int), .int .i64 (lg : Int), .int .i64 (rc : Int), .bool true] 72)) W b ⟨⟨num, half, sn, lg⟩, rc, true⟩ := hw.below HB4.out
    have HPd := hide (powered1_any hc2 hcB hc0 hcW (by omega) (by omega) (by omega))
    have HBs : Hid (D.Mv (FW F W) (FW F W) w (((w.alloc (.cells #[.pointer (some ⟨W, 0, none⟩)] 35)).alloc (.cells #[.int .i64 2] 25)).alloc (.cells #[.pointer (some ⟨b, 0, none⟩), .int .u64 (num : Int), .int .u8 (half : Int), .int .i64 (sn : Int), .int .i64 (lg : Int), .int .i64 (rc : Int), .bool true] 72))) := hide (D.Mv.of_below HB4.out)
    have HDs : Hid (D.Dk base (((w.alloc (.cells #[.pointer (some ⟨W, 0, none⟩)] 35)).alloc (.cells #[.int .i64 2] 25)).alloc (.cells #[.pointer (some ⟨b, 0, none⟩), .int .u64 (num : Int), .int .u8 (half : Int), .int .i64 (sn : Int), .int .i64 (lg : Int), .int .i64 (rc : Int), .bool true] 72)) b F d) := hide (HD.out.below HB4.out)
    clear hc0 hcB hcW d0 d1 d2 d3 d4 d5 d6 dz c0 c1 c2 c3 c4 c5 c6 cz H3 e0 e1 z1 HWm1 HX2 HD1
    refine leaves_cons (f := 52) (args := #[.pointer (some ⟨w.heap.size + 1, 0, none⟩), .pointer (some ⟨w.heap.size + 2, 0, none⟩), .pointer (some ⟨w.heap.size, 0, none⟩)]) (by simp) (by simp [go_sem]) ?_
    refine HPd.out.mono ?_
    rintro e u' w9 ⟨rfl, rfl, hW9, hO9⟩
    have c9 : w9.cell? ⟨w.heap.size + 1, 0, none⟩ = some (.int .i64 2) := by
      unfold World.cell? at hc2 ⊢; rw [show w9.heap[(⟨w.heap.size + 1, 0, none⟩ : Addr).block]? = _ from hO9.block _ (show w.heap.size + 1 ≠ W by omega)]; exact hc2
    simp [Leaves, settle, results, Try.results33, go_sem, c9]
    exact ⟨by rw [HR.out], by rw [HR.out]; exact hW9, F, by rw [HR.out]; exact HDs.out.keep fun k hk => hO9.block k (fun e => hFW (e ▸ hk)), mv_onl HBs.out hO9, hFW⟩
  | false =>
    cases hdd : d.dead with
    | true =>
      have HR : Hid (R = (2, d, ⟨⟨num, half, sn, lg⟩, rc, true⟩)) := hide (by rw [← hR]; exact if_pos (.inr hdd))
      clear hR HC
      have H3 := hide (three (w := w) (a := .cells #[.pointer (some ⟨W, 0, none⟩)] 35) (b := .cells #[.int .i64 0] 25) (c := .cells #[.pointer (some ⟨b, 0, none⟩), .int .u64 (num : Int), .int .u8 (half : Int), .int .i64 (sn : Int), .int .i64 (lg : Int), .int .i64 (rc : Int), .bool false] 72)).2
      have HB1 := hide (bel3 w (.cells #[.pointer (some ⟨W, 0, none⟩)] 35) (.cells #[.int .i64 0] 25) (.cells #[.pointer (some ⟨b, 0, none⟩), .int .u64 (num : Int), .int .u8 (half : Int), .int .i64 (sn : Int), .int .i64 (lg : Int), .int .i64 (rc : Int), .bool false] 72))
      have HWm1 : Hid (Wm (((w.alloc (.cells #[.pointer (some ⟨W, 0, none⟩)] 35)).alloc (.cells #[.int .i64 0] 25)).alloc (.cells #[.pointer (some ⟨b, 0, none⟩), .int .u64 (num : Int), .int .u8 (half : Int), .int .i64 (sn : Int), .int .i64 (lg : Int), .int .i64 (rc : Int), .bool false] 72)) W b ⟨⟨num, half, sn, lg⟩, rc, false⟩) := hide (hw.below HB1.out)
      have HX2 : Hid (Wm (((w.alloc (.cells #[.pointer (some ⟨W, 0, none⟩)] 35)).alloc (.cells #[.int .i64 0] 25)).alloc (.cells #[.pointer (some ⟨b, 0, none⟩), .int .u64 (num : Int), .int .u8 (half : Int), .int .i64 (sn : Int), .int .i64 (lg : Int), .int .i64 (rc : Int), .bool false] 72)) (w.heap.size + 2) b ⟨⟨num, half, sn, lg⟩, rc, false⟩) := hide H3.out.2.2
      have HD1 := hide (h.below HB1.out)
      obtain ⟨c0, c1, c2, c3, c4, c5, c6, cz⟩ := wm_cells hw
      simp only at c0 c1 c2 c3 c4 c5 c6
      have hWl := lt_of_block hw
      have e0 : (((w.alloc (.cells #[.pointer (some ⟨W, 0, none⟩)] 35)).alloc (.cells #[.int .i64 0] 25)).alloc (.cells #[.pointer (some ⟨b, 0, none⟩), .int .u64 (num : Int), .int .u8 (half : Int), .int .i64 (sn : Int), .int .i64 (lg : Int), .int .i64 (rc : Int), .bool false] 72)).cell? ⟨w.heap.size, 0, none⟩ = some (.pointer (some ⟨W, 0, none⟩)) := by unfold World.cell?; rw [show _ = _ from H3.out.1]; rfl
      have e1 : (((w.alloc (.cells #[.pointer (some ⟨W, 0, none⟩)] 35)).alloc (.cells #[.int .i64 0] 25)).alloc (.cells #[.pointer (some ⟨b, 0, none⟩), .int .u64 (num : Int), .int .u8 (half : Int), .int .i64 (sn : Int), .int .i64 (lg : Int), .int .i64 (rc : Int), .bool false] 72)).cell? ⟨w.heap.size + 1, 0, none⟩ = some (.int .i64 0) := by unfold World.cell?; rw [show _ = _ from H3.out.2.1]; rfl
      have z1 : (((w.alloc (.cells #[.pointer (some ⟨W, 0, none⟩)] 35)).alloc (.cells #[.int .i64 0] 25)).alloc (.cells #[.pointer (some ⟨b, 0, none⟩), .int .u64 (num : Int), .int .u8 (half : Int), .int .i64 (sn : Int), .int .i64 (lg : Int), .int .i64 (rc : Int), .bool false] 72)).frozen? ⟨w.heap.size + 1, 0, none⟩ = false := by unfold World.frozen?; rw [show _ = _ from H3.out.2.1]; simp
      obtain ⟨d0, d1, d2, d3, d4, d5, d6, dz⟩ := wm_cells HWm1.out
      simp only at d0 d1 d2 d3 d4 d5 d6
      have HDe := hide (D.dead_any HD1.out)
      rw [hdd] at HDe
      go_enter_defers Try.func33, Try.ntmps33
      go_wp2_with fail
      refine HDe.out.mono ?_
      rintro e w' ⟨rfl, rfl⟩
      go_wp2_with fail
      have H4 := hide (three (w := w) (a := .cells #[.pointer (some ⟨W, 0, none⟩)] 35) (b := .cells #[.int .i64 2] 25) (c := .cells #[.pointer (some ⟨b, 0, none⟩), .int .u64 (num : Int), .int .u8 (half : Int), .int .i64 (sn : Int), .int .i64 (lg : Int), .int .i64 (rc : Int), .bool false] 72)).2
      have HB4 := hide (bel3 w (.cells #[.pointer (some ⟨W, 0, none⟩)] 35) (.cells #[.int .i64 2] 25) (.cells #[.pointer (some ⟨b, 0, none⟩), .int .u64 (num : Int), .int .u8 (half : Int), .int .i64 (sn : Int), .int .i64 (lg : Int), .int .i64 (rc : Int), .bool false] 72))
      have hc2 : (((w.alloc (.cells #[.pointer (some ⟨W, 0, none⟩)] 35)).alloc (.cells #[.int .i64 2] 25)).alloc (.cells #[.pointer (some ⟨b, 0, none⟩), .int .u64 (num : Int), .int .u8 (half : Int), .int .i64 (sn : Int), .int .i64 (lg : Int), .int .i64 (rc : Int), .bool false] 72)).cell? ⟨w.heap.size + 1, 0, none⟩ = some (.int .i64 2) := by unfold World.cell?; rw [show _ = _ from H4.out.2.1]; rfl
      have hc0 : (((w.alloc (.cells #[.pointer (some ⟨W, 0, none⟩)] 35)).alloc (.cells #[.int .i64 2] 25)).alloc (.cells #[.pointer (some ⟨b, 0, none⟩), .int .u64 (num : Int), .int .u8 (half : Int), .int .i64 (sn : Int), .int .i64 (lg : Int), .int .i64 (rc : Int), .bool false] 72)).cell? ⟨w.heap.size, 0, none⟩ = some (.pointer (some ⟨W, 0, none⟩)) := by unfold World.cell?; rw [show _ = _ from H4.out.1]; rfl
      have hcB : Wm (((w.alloc (.cells #[.pointer (some ⟨W, 0, none⟩)] 35)).alloc (.cells #[.int .i64 2] 25)).alloc (.cells #[.pointer (some ⟨b, 0, none⟩), .int .u64 (num : Int), .int .u8 (half : Int), .int .i64 (sn : Int), .int .i64 (lg : Int), .int .i64 (rc : Int), .bool false] 72)) (w.heap.size + 2) b ⟨⟨num, half, sn, lg⟩, rc, false⟩ := H4.out.2.2
      have hcW : Wm (((w.alloc (.cells #[.pointer (some ⟨W, 0, none⟩)] 35)).alloc (.cells #[.int .i64 2] 25)).alloc (.cells #[.pointer (some ⟨b, 0, none⟩), .int .u64 (num : Int), .int .u8 (half : Int), .int .i64 (sn : Int), .int .i64 (lg : Int), .int .i64 (rc : Int), .bool false] 72)) W b ⟨⟨num, half, sn, lg⟩, rc, false⟩ := hw.below HB4.out
      have HPd := hide (powered1_any hc2 hcB hc0 hcW (by omega) (by omega) (by omega))
      have HBs : Hid (D.Mv (FW F W) (FW F W) w (((w.alloc (.cells #[.pointer (some ⟨W, 0, none⟩)] 35)).alloc (.cells #[.int .i64 2] 25)).alloc (.cells #[.pointer (some ⟨b, 0, none⟩), .int .u64 (num : Int), .int .u8 (half : Int), .int .i64 (sn : Int), .int .i64 (lg : Int), .int .i64 (rc : Int), .bool false] 72))) := hide (D.Mv.of_below HB4.out)
      have HDs : Hid (D.Dk base (((w.alloc (.cells #[.pointer (some ⟨W, 0, none⟩)] 35)).alloc (.cells #[.int .i64 2] 25)).alloc (.cells #[.pointer (some ⟨b, 0, none⟩), .int .u64 (num : Int), .int .u8 (half : Int), .int .i64 (sn : Int), .int .i64 (lg : Int), .int .i64 (rc : Int), .bool false] 72)) b F d) := hide (HD.out.below HB4.out)
      clear hc0 hcB hcW d0 d1 d2 d3 d4 d5 d6 dz c0 c1 c2 c3 c4 c5 c6 cz H3 e0 e1 z1 HWm1 HX2 HD1
      refine leaves_cons (f := 52) (args := #[.pointer (some ⟨w.heap.size + 1, 0, none⟩), .pointer (some ⟨w.heap.size + 2, 0, none⟩), .pointer (some ⟨w.heap.size, 0, none⟩)]) (by simp) (by simp [go_sem]) ?_
      refine HPd.out.mono ?_
      rintro e u' w9 ⟨rfl, rfl, hW9, hO9⟩
      have c9 : w9.cell? ⟨w.heap.size + 1, 0, none⟩ = some (.int .i64 2) := by
        unfold World.cell? at hc2 ⊢; rw [show w9.heap[(⟨w.heap.size + 1, 0, none⟩ : Addr).block]? = _ from hO9.block _ (show w.heap.size + 1 ≠ W by omega)]; exact hc2
      simp [Leaves, settle, results, Try.results33, go_sem, c9]
      exact ⟨by rw [HR.out], by rw [HR.out]; exact hW9, F, by rw [HR.out]; exact HDs.out.keep fun k hk => hO9.block k (fun e => hFW (e ▸ hk)), mv_onl HBs.out hO9, hFW⟩
    | false =>
      have HR : Hid (R = (r.1, r.2, wsAfter r.1 ⟨⟨num, half, sn, lg⟩, rc, false⟩ ws1)) := hide (by rw [← hR]; exact if_neg (by simp [hdd]))
      clear hR
      have H3 := hide (three (w := w) (a := .cells #[.pointer (some ⟨W, 0, none⟩)] 35) (b := .cells #[.int .i64 0] 25) (c := .cells #[.pointer (some ⟨b, 0, none⟩), .int .u64 (num : Int), .int .u8 (half : Int), .int .i64 (sn : Int), .int .i64 (lg : Int), .int .i64 (rc : Int), .bool false] 72)).2
      have HB1 := hide (bel3 w (.cells #[.pointer (some ⟨W, 0, none⟩)] 35) (.cells #[.int .i64 0] 25) (.cells #[.pointer (some ⟨b, 0, none⟩), .int .u64 (num : Int), .int .u8 (half : Int), .int .i64 (sn : Int), .int .i64 (lg : Int), .int .i64 (rc : Int), .bool false] 72))
      have HWm1 : Hid (Wm (((w.alloc (.cells #[.pointer (some ⟨W, 0, none⟩)] 35)).alloc (.cells #[.int .i64 0] 25)).alloc (.cells #[.pointer (some ⟨b, 0, none⟩), .int .u64 (num : Int), .int .u8 (half : Int), .int .i64 (sn : Int), .int .i64 (lg : Int), .int .i64 (rc : Int), .bool false] 72)) W b ⟨⟨num, half, sn, lg⟩, rc, false⟩) := hide (hw.below HB1.out)
      have HX2 : Hid (Wm (((w.alloc (.cells #[.pointer (some ⟨W, 0, none⟩)] 35)).alloc (.cells #[.int .i64 0] 25)).alloc (.cells #[.pointer (some ⟨b, 0, none⟩), .int .u64 (num : Int), .int .u8 (half : Int), .int .i64 (sn : Int), .int .i64 (lg : Int), .int .i64 (rc : Int), .bool false] 72)) (w.heap.size + 2) b ⟨⟨num, half, sn, lg⟩, rc, false⟩) := hide H3.out.2.2
      have HD1 := hide (h.below HB1.out)
      obtain ⟨c0, c1, c2, c3, c4, c5, c6, cz⟩ := wm_cells hw
      simp only at c0 c1 c2 c3 c4 c5 c6
      have hWl := lt_of_block hw
      have e0 : (((w.alloc (.cells #[.pointer (some ⟨W, 0, none⟩)] 35)).alloc (.cells #[.int .i64 0] 25)).alloc (.cells #[.pointer (some ⟨b, 0, none⟩), .int .u64 (num : Int), .int .u8 (half : Int), .int .i64 (sn : Int), .int .i64 (lg : Int), .int .i64 (rc : Int), .bool false] 72)).cell? ⟨w.heap.size, 0, none⟩ = some (.pointer (some ⟨W, 0, none⟩)) := by unfold World.cell?; rw [show _ = _ from H3.out.1]; rfl
      have e1 : (((w.alloc (.cells #[.pointer (some ⟨W, 0, none⟩)] 35)).alloc (.cells #[.int .i64 0] 25)).alloc (.cells #[.pointer (some ⟨b, 0, none⟩), .int .u64 (num : Int), .int .u8 (half : Int), .int .i64 (sn : Int), .int .i64 (lg : Int), .int .i64 (rc : Int), .bool false] 72)).cell? ⟨w.heap.size + 1, 0, none⟩ = some (.int .i64 0) := by unfold World.cell?; rw [show _ = _ from H3.out.2.1]; rfl
      have z1 : (((w.alloc (.cells #[.pointer (some ⟨W, 0, none⟩)] 35)).alloc (.cells #[.int .i64 0] 25)).alloc (.cells #[.pointer (some ⟨b, 0, none⟩), .int .u64 (num : Int), .int .u8 (half : Int), .int .i64 (sn : Int), .int .i64 (lg : Int), .int .i64 (rc : Int), .bool false] 72)).frozen? ⟨w.heap.size + 1, 0, none⟩ = false := by unfold World.frozen?; rw [show _ = _ from H3.out.2.1]; simp
      obtain ⟨d0, d1, d2, d3, d4, d5, d6, dz⟩ := wm_cells HWm1.out
      simp only at d0 d1 d2 d3 d4 d5 d6
      have HDe := hide (D.dead_any HD1.out)
      rw [hdd] at HDe
      have HCa := hide (HC.out hdd rfl _ HB1.out)
      obtain ⟨re, rd⟩ := r
      simp only at HCa HR
      clear HC
      go_enter_defers Try.func33, Try.ntmps33
      go_wp2_with fail
      refine HDe.out.mono ?_
      rintro e w' ⟨rfl, rfl⟩
      go_wp2_with fail
      refine HCa.out.mono ?_
      rintro e w2 ⟨rfl, hW2, F', hD2, hM2, hnF⟩
      have hn0 : ¬ FW F W w.heap.size := fun k => by rcases k with k | k; exact absurd (HD.out.ftlt _ k).2 (Nat.lt_irrefl _); omega
      have hn1 : ¬ FW F W (w.heap.size + 1) := fun k => by rcases k with k | k; exact absurd (HD.out.ftlt _ k).2 (by omega); omega
      have hn2 : ¬ FW F W (w.heap.size + 2) := fun k => by rcases k with k | k; exact absurd (HD.out.ftlt _ k).2 (by omega); omega
      have b0 := (hM2.block _ (lt_of_block H3.out.1) hn0).trans H3.out.1
      have b1 := (hM2.block _ (lt_of_block H3.out.2.1) hn1).trans H3.out.2.1
      have b2 := (hM2.block _ (lt_of_block H3.out.2.2) hn2).trans H3.out.2.2
      have k1 : w2.cell? ⟨w.heap.size + 1, 0, none⟩ = some (.int .i64 0) := by unfold World.cell?; rw [show _ = _ from b1]; rfl
      have y1 : w2.frozen? ⟨w.heap.size + 1, 0, none⟩ = false := by unfold World.frozen?; rw [show _ = _ from b1]; simp
      have k0 : w2.cell? ⟨w.heap.size, 0, none⟩ = some (.pointer (some ⟨W, 0, none⟩)) := by unfold World.cell?; rw [show _ = _ from b0]; rfl
      have hc2 : (w2.setCell ⟨w.heap.size + 1, 0, none⟩ (.int .i64 re)).cell? ⟨w.heap.size + 1, 0, none⟩ = some (.int .i64 re) := World.cell?_setCell_same _ _ _ k1
      have hc0 : (w2.setCell ⟨w.heap.size + 1, 0, none⟩ (.int .i64 re)).cell? ⟨w.heap.size, 0, none⟩ = some (.pointer (some ⟨W, 0, none⟩)) := (World.cell?_setCell_far _ _ _ _ (by simp)).trans k0
      have hcB : Wm (w2.setCell ⟨w.heap.size + 1, 0, none⟩ (.int .i64 re)) (w.heap.size + 2) b ⟨⟨num, half, sn, lg⟩, rc, false⟩ := (Below.heap_setCell _ _ _ _ (by simp)).trans b2
      have hcW : Wm (w2.setCell ⟨w.heap.size + 1, 0, none⟩ (.int .i64 re)) W b ws1 := (Below.heap_setCell _ _ _ _ (show W ≠ w.heap.size + 1 by omega)).trans hW2
      have HPd := hide (powered1_any hc2 hcB hc0 hcW (by omega) (by omega) (by omega))
      have HBs : Hid (D.Mv (FW F W) (FW F' W) w (w2.setCell ⟨w.heap.size + 1, 0, none⟩ (.int .i64 re))) := hide (mv_set ((D.Mv.of_below HB1.out).trans hM2) (by simp))
      have hF1 : ∀ k, F' k → k ≠ w.heap.size + 1 ∧ k ≠ W := fun k hk => by
        refine ⟨?_, fun e => hnF (e ▸ hk)⟩
        rcases hM2.foot k (.inl hk) with (h5 | h5) | h5
        · have := (HD.out.ftlt k h5).2; omega
        · omega
        · simp only [World.size_alloc] at h5; omega
      have HDs : Hid (D.Dk base (w2.setCell ⟨w.heap.size + 1, 0, none⟩ (.int .i64 re)) b F' rd) := hide (hD2.keep fun k hk => Below.heap_setCell _ _ _ _ (hF1 k hk).1)
      clear hc0 hcB hcW d0 d1 d2 d3 d4 d5 d6 dz c0 c1 c2 c3 c4 c5 c6 cz H3 e0 e1 z1 HWm1 HX2 HD1 hM2 hD2 hW2 b0 b1 b2 HDe HCa
      go_wp2_with fail
      refine leaves_cons (f := 52) (args := #[.pointer (some ⟨w.heap.size + 1, 0, none⟩), .pointer (some ⟨w.heap.size + 2, 0, none⟩), .pointer (some ⟨w.heap.size, 0, none⟩)]) (by simp) (by simp [go_sem]) ?_
      refine HPd.out.mono ?_
      rintro e u' w9 ⟨rfl, rfl, hW9, hO9⟩
      have c9 : w9.cell? ⟨w.heap.size + 1, 0, none⟩ = some (.int .i64 re) := by
        unfold World.cell? at hc2 ⊢; rw [show w9.heap[(⟨w.heap.size + 1, 0, none⟩ : Addr).block]? = _ from hO9.block _ (show w.heap.size + 1 ≠ W by omega)]; exact hc2
      simp [Leaves, settle, results, Try.results33, go_sem, c9]
      exact ⟨by rw [HR.out], by rw [HR.out]; exact hW9, F', by rw [HR.out]; exact HDs.out.keep fun k hk => hO9.block k (hF1 k hk).2, mv_onl HBs.out hO9, hnF⟩
end Go.Proofs.Ytojghjgbnnkldaa
end

section
namespace Go.Proofs.Ytojghjgbnnkldaa
open Go.RowKit Go.Shelf
open Wl (Hd WS Log)

/-- what the closure does -/
def inS (d : D.DS) (ws : WS) (s : ByteArray) : (Int × D.DS) × WS :=
  if min 17000 (Wl.hb d.S.length) < s.size then ((92, d), ws) else if 1099511627776 ≤ ws.h.num then ((94, d), ws)
  else (Wl.layW d (Wl.first d.S.length (1 - ws.h.half)) (Wl.sects s.data.toList) (Wl.hdS ws.h s), ⟨Wl.hdS ws.h s, 0, ws.gone⟩)
theorem snapshot_eq (d : D.DS) (ws : WS) (s : ByteArray) : Wl.snapshot d ws s = Wl.powered d ws ((inS d ws s).1.1, (inS d ws s).1.2, wsAfter (inS d ws s).1.1 ws (inS d ws s).2) := by
  unfold Wl.snapshot inS
  by_cases h2 : min 17000 (Wl.hb d.S.length) < s.size
  · rw [if_pos h2, if_pos h2]; rfl
  rw [if_neg h2, if_neg h2]
  by_cases h3 : 1099511627776 ≤ ws.h.num
  · rw [if_pos h3, if_pos h3]; rfl
  rw [if_neg h3, if_neg h3]
  rfl
set_option maxHeartbeats 4000000 in
set_option maxRecDepth 8000 in
theorem snapshotIn_any {base : Nat} {w : World} {b W p1 p2 : Nat} {F : Nat → Prop} {d : D.DS} {ws : WS} {r : ByteArray} (h : D.Dk base w b F d) (hw : Wm w W b ws) (hFW : ¬ F W) (ho : Wl.Ok d ws) (hrz : r.size ≤ 140737488351232) (hR : (d.R.length + 600) * 24 ≤ 140737488355328)
    (h1 : w.cell? ⟨p1, 0, none⟩ = some (.string r)) (h2 : w.cell? ⟨p2, 0, none⟩ = some (.pointer (some ⟨W, 0, none⟩))) :
    Calls Try.prog 34 #[.pointer (some ⟨p1, 0, none⟩), .pointer (some ⟨p2, 0, none⟩)] w fun e w' => e = .returned (.int .i64 (inS d ws r).1.1) ∧ Wm w' W b (inS d ws r).2 ∧ ∃ F', D.Dk base w' b F' (inS d ws r).1.2 ∧ D.Mv (FW F W) (FW F' W) w w' ∧ ¬ F' W := by
  have HD := hide h
  have HWm := hide hw
  obtain ⟨X, hX⟩ : ∃ X, inS d ws r = X := ⟨_, rfl⟩
  rw [hX]
  have HX : Hid (X = if min 17000 (Wl.hb d.S.length) < r.size then ((92, d), ws) else if 1099511627776 ≤ ws.h.num then ((94, d), ws)
    else (Wl.layW d (Wl.first d.S.length (1 - ws.h.half)) (Wl.sects r.data.toList) (Wl.hdS ws.h r), ⟨Wl.hdS ws.h r, 0, ws.gone⟩)) := hide (by rw [← hX]; rfl)
  have HB0 : Hid (Below w.heap.size w w.drew) := hide ⟨rfl, rfl, rfl, Nat.le_refl _, fun _ _ => rfl⟩
  have hc0 := (wm_cells hw).1
  have hst : w.cell? ⟨p1, 0, none⟩ = some (.string r) ∧ w.cell? ⟨p2, 0, none⟩ = some (.pointer (some ⟨W, 0, none⟩)) ∧ w.cell? ⟨W, 0, none⟩ = some (.pointer (some ⟨b, 0, none⟩)) := ⟨h1, h2, hc0⟩
  have hWl := lt_of_block hw
  have hmn : min (17000 : Int) (Wl.hb d.S.length : Int) = ((min 17000 (Wl.hb d.S.length) : Nat) : Int) := by omega
  have hm17 : min 17000 (Wl.hb d.S.length) ≤ 17000 := Nat.min_le_left _ _
  generalize min 17000 (Wl.hb d.S.length) = MN at *
  clear h hw hX hc0
  by_cases hrm : MN < r.size
  · have HR : Hid (X = ((92, d), ws)) := hide (by rw [HX.out, if_pos hrm])
    have b3 : decide (MN < r.size) = true := decide_eq_true hrm
    clear HX
    go_enter Try.func34, Try.ntmps34
    go_wp2_with fail
    refine wp_region_held_drew (S := fun w' => w'.cell? ⟨p1, 0, none⟩ = some (.string r) ∧ w'.cell? ⟨p2, 0, none⟩ = some (.pointer (some ⟨W, 0, none⟩)) ∧ w'.cell? ⟨W, 0, none⟩ = some (.pointer (some ⟨b, 0, none⟩))) (by kernel_rfl) (hst) (fun hHeld => ?_)
    refine wpAnyH_take (i := 0) (v := .string r) rfl (by kernel_rfl) (by kernel_rfl) (by kernel_rfl) (fun _ _ _ h => h) (Or.inl ⟨by rfl, fun w1 hSw => by clear hHeld; obtain ⟨s1, s2, s3⟩ := hSw; go_simp⟩) hHeld ?_
    simp only [Act.put, List.setIfInBounds_toArray]
    refine wpAnyH_take (i := 1) (v := .int .i64 (r.size : Int)) rfl (by kernel_rfl) (by kernel_rfl) (by kernel_rfl) (fun _ _ _ h => h) (Or.inl ⟨by rfl, fun w1 hSw => by clear hHeld; obtain ⟨s1, s2, s3⟩ := hSw; go_simp⟩) hHeld ?_
    try simp only [Act.put]
    refine wpAnyH_take (i := 2) (v := .pointer (some ⟨W, 0, none⟩)) rfl (by kernel_rfl) (by kernel_rfl) (by kernel_rfl) (fun _ _ _ h => h) (Or.inl ⟨by rfl, fun w1 hSw => by clear hHeld; obtain ⟨s1, s2, s3⟩ := hSw; go_simp⟩) hHeld ?_
    try simp only [Act.put]
    refine wpAnyH_take (i := 3) (v := .pointer (some ⟨W, 0, none⟩)) rfl (by kernel_rfl) (by kernel_rfl) (by kernel_rfl) (fun _ _ _ h => h) (Or.inl ⟨by rfl, fun w1 hSw => by clear hHeld; obtain ⟨s1, s2, s3⟩ := hSw; go_simp⟩) hHeld ?_
    try simp only [Act.put]
    refine wpAnyH_take (i := 4) (v := .pointer (some ⟨W, 0, none⟩)) rfl (by kernel_rfl) (by kernel_rfl) (by kernel_rfl) (fun _ _ _ h => h) (Or.inl ⟨by rfl, fun w1 hSw => by clear hHeld; obtain ⟨s1, s2, s3⟩ := hSw; go_simp⟩) hHeld ?_
    try simp only [Act.put]
    refine wpAnyH_take (i := 5) (v := .pointer (some ⟨b, 0, none⟩)) rfl (by kernel_rfl) (by kernel_rfl) (by kernel_rfl) (fun _ _ _ h => h) (Or.inl ⟨by rfl, fun w1 hSw => by clear hHeld; obtain ⟨s1, s2, s3⟩ := hSw; go_simp⟩) hHeld ?_
    try simp only [Act.put]
    refine wpAnyH_ready (rs := [6]) (by kernel_rfl) (by simp) ?_
    refine AllReadyH.cons rfl (fun K hK => ?_) AllReadyH.nil
    go_simp
    refine (halfBytes_any (HD.out.below HB0.out)).mono ?_
    rintro e w0a ⟨rfl, rfl⟩
    have HB1 := HB0
    refine hK.out _ _ (hHeld) (fun hHeld => ?_)
    clear hK K
    refine wpAnyH_ready (rs := [7]) (by kernel_rfl) (by simp) ?_
    refine AllReadyH.cons rfl (fun K hK => ?_) AllReadyH.nil
    go_simp
    have HB2 := HB1
    refine hK.out _ _ (hHeld) (fun hHeld => ?_)
    clear hK K
    refine wpAnyH_ready (rs := [8]) (by kernel_rfl) (by simp) ?_
    refine AllReadyH.cons rfl (fun K hK => ?_) AllReadyH.nil
    go_simp
    have HB3 := HB2
    refine hK.out _ _ (hHeld) (fun hHeld => ?_)
    clear hK K
    refine wpAnyH_ready (rs := [9]) (by kernel_rfl) (by simp) ?_
    refine AllReadyH.cons rfl (fun K hK => ?_) AllReadyH.nil
    go_simp
    have HB4 := HB3
    have HS9 := hide hHeld
    refine hK.out _ _ (hHeld) (fun hHeld => ?_)
    clear hK K
    refine wpAnyH_done (by kernel_rfl) ?_ _
    clear hHeld
    have HB9 := HB4
    go_wp2_with fail
    go_ret
    exact ⟨by rw [HR.out]; rfl, by rw [HR.out]; exact HWm.out.below HB9.out, F, by rw [HR.out]; exact HD.out.below HB9.out, D.Mv.of_below HB9.out, hFW⟩
  have b3 : decide (MN < r.size) = false := decide_eq_false hrm
  have hrs : r.size ≤ 17000 := by omega
  have HX3 : Hid (X = if 1099511627776 ≤ ws.h.num then ((94, d), ws)
    else (Wl.layW d (Wl.first d.S.length (1 - ws.h.half)) (Wl.sects r.data.toList) (Wl.hdS ws.h r), ⟨Wl.hdS ws.h r, 0, ws.gone⟩)) := hide (by rw [HX.out, if_neg hrm])
  clear HX
  go_enter Try.func34, Try.ntmps34
  go_wp2_with fail
  refine wp_region_held_drew (S := fun w' => w'.cell? ⟨p1, 0, none⟩ = some (.string r) ∧ w'.cell? ⟨p2, 0, none⟩ = some (.pointer (some ⟨W, 0, none⟩)) ∧ w'.cell? ⟨W, 0, none⟩ = some (.pointer (some ⟨b, 0, none⟩))) (by kernel_rfl) (hst) (fun hHeld => ?_)
  refine wpAnyH_take (i := 0) (v := .string r) rfl (by kernel_rfl) (by kernel_rfl) (by kernel_rfl) (fun _ _ _ h => h) (Or.inl ⟨by rfl, fun w1 hSw => by clear hHeld; obtain ⟨s1, s2, s3⟩ := hSw; go_simp⟩) hHeld ?_
  simp only [Act.put, List.setIfInBounds_toArray]
  refine wpAnyH_take (i := 1) (v := .int .i64 (r.size : Int)) rfl (by kernel_rfl) (by kernel_rfl) (by kernel_rfl) (fun _ _ _ h => h) (Or.inl ⟨by rfl, fun w1 hSw => by clear hHeld; obtain ⟨s1, s2, s3⟩ := hSw; go_simp⟩) hHeld ?_
  try simp only [Act.put]
  refine wpAnyH_take (i := 2) (v := .pointer (some ⟨W, 0, none⟩)) rfl (by kernel_rfl) (by kernel_rfl) (by kernel_rfl) (fun _ _ _ h => h) (Or.inl ⟨by rfl, fun w1 hSw => by clear hHeld; obtain ⟨s1, s2, s3⟩ := hSw; go_simp⟩) hHeld ?_
  try simp only [Act.put]
  refine wpAnyH_take (i := 3) (v := .pointer (some ⟨W, 0, none⟩)) rfl (by kernel_rfl) (by kernel_rfl) (by kernel_rfl) (fun _ _ _ h => h) (Or.inl ⟨by rfl, fun w1 hSw => by clear hHeld; obtain ⟨s1, s2, s3⟩ := hSw; go_simp⟩) hHeld ?_
  try simp only [Act.put]
  refine wpAnyH_take (i := 4) (v := .pointer (some ⟨W, 0, none⟩)) rfl (by kernel_rfl) (by kernel_rfl) (by kernel_rfl) (fun _ _ _ h => h) (Or.inl ⟨by rfl, fun w1 hSw => by clear hHeld; obtain ⟨s1, s2, s3⟩ := hSw; go_simp⟩) hHeld ?_
  try simp only [Act.put]
  refine wpAnyH_take (i := 5) (v := .pointer (some ⟨b, 0, none⟩)) rfl (by kernel_rfl) (by kernel_rfl) (by kernel_rfl) (fun _ _ _ h => h) (Or.inl ⟨by rfl, fun w1 hSw => by clear hHeld; obtain ⟨s1, s2, s3⟩ := hSw; go_simp⟩) hHeld ?_
  try simp only [Act.put]
  refine wpAnyH_ready (rs := [6]) (by kernel_rfl) (by simp) ?_
  refine AllReadyH.cons rfl (fun K hK => ?_) AllReadyH.nil
  go_simp
  refine (halfBytes_any (HD.out.below HB0.out)).mono ?_
  rintro e w0a ⟨rfl, rfl⟩
  have HB1 := HB0
  refine hK.out _ _ (hHeld) (fun hHeld => ?_)
  clear hK K
  refine wpAnyH_ready (rs := [7]) (by kernel_rfl) (by simp) ?_
  refine AllReadyH.cons rfl (fun K hK => ?_) AllReadyH.nil
  go_simp
  have HB2 := HB1
  refine hK.out _ _ (hHeld) (fun hHeld => ?_)
  clear hK K
  refine wpAnyH_ready (rs := [8]) (by kernel_rfl) (by simp) ?_
  refine AllReadyH.cons rfl (fun K hK => ?_) AllReadyH.nil
  go_simp
  have HB3 := HB2
  refine hK.out _ _ (hHeld) (fun hHeld => ?_)
  clear hK K
  refine wpAnyH_ready (rs := [9]) (by kernel_rfl) (by simp) ?_
  refine AllReadyH.cons rfl (fun K hK => ?_) AllReadyH.nil
  go_simp
  have HB4 := HB3
  have HS9 := hide hHeld
  refine hK.out _ _ (hHeld) (fun hHeld => ?_)
  clear hK K
  refine wpAnyH_done (by kernel_rfl) ?_ _
  clear hHeld
  have HB9 := HB4
  have hW9 := HWm.out.below HB9.out
  obtain ⟨c0, c1, c2, c3, c4, c5, c6, cz⟩ := wm_cells hW9
  obtain ⟨s1, s2, s3⟩ := HS9.out
  have HL := hide (fun V => isLast_any ws.h V)
  have HO := hide ho
  obtain ⟨⟨num, half, sn, lg⟩, rc, gone⟩ := ws
  simp only [hdC] at *
  clear hW9 ho
  go_wp2_with fail
  refine (HL.out _).mono ?_
  rintro e wl ⟨rfl, rfl⟩
  have HBl := hide (HB9.out.alloc HB9.out.size (.cells #[.int .u64 (num : Int), .int .u8 (half : Int), .int .i64 (sn : Int), .int .i64 (lg : Int)] 58))
  by_cases hn : 1099511627776 ≤ num
  · have HR : Hid (X = ((94, d), ⟨⟨num, half, sn, lg⟩, rc, gone⟩)) := hide (by rw [HX3.out, if_pos hn])
    rw [decide_eq_true hn]
    clear HX3 HL
    go_wp2_with fail
    go_ret
    exact ⟨by rw [HR.out]; rfl, by rw [HR.out]; exact HWm.out.below HBl.out, F, by rw [HR.out]; exact HD.out.below HBl.out, D.Mv.of_below HBl.out, hFW⟩
  · have HR : Hid (X = (Wl.layW d (Wl.first d.S.length (1 - half)) (Wl.sects r.data.toList) (Wl.hdS ⟨num, half, sn, lg⟩ r), ⟨Wl.hdS ⟨num, half, sn, lg⟩ r, 0, gone⟩)) := hide (by rw [HX3.out, if_neg hn])
    rw [decide_eq_false hn]
    have HLr := hide (laySnapshot_any (HD.out.below HBl.out) (HWm.out.below HBl.out) hFW HO.out r hrs hR (Nat.not_le.mp hn))
    simp only at HLr
    generalize Wl.layW d (Wl.first d.S.length (1 - half)) (Wl.sects r.data.toList) (Wl.hdS ⟨num, half, sn, lg⟩ r) = LW at *
    have s1b := Lib.cell?_alloc_some (.cells #[.int .u64 (num : Int), .int .u8 (half : Int), .int .i64 (sn : Int), .int .i64 (lg : Int)] 58) s1
    have s2b := Lib.cell?_alloc_some (.cells #[.int .u64 (num : Int), .int .u8 (half : Int), .int .i64 (sn : Int), .int .i64 (lg : Int)] 58) s2
    have s1c := Lib.cell?_alloc_some (.cells #[.int .u64 (num : Int), .int .u8 (half : Int), .int .i64 (sn : Int), .int .i64 (lg : Int)] 58) h1
    have s2c := Lib.cell?_alloc_some (.cells #[.int .u64 (num : Int), .int .u8 (half : Int), .int .i64 (sn : Int), .int .i64 (lg : Int)] 58) h2
    clear HX3 HL c0 c1 c2 c3 c4 c5 c6 cz
    go_wp2_with fail
    refine HLr.out.mono ?_
    rintro e w9 ⟨rfl, hW9, F', hD9, hM9, hn9⟩
    have HW9 := hide hW9
    have HD9 := hide hD9
    have HM9 := hide ((D.Mv.of_below (F := FW F W) HBl.out).trans hM9)
    clear hW9 hD9 hM9 HLr
    go_wp2_with fail
    go_ret
    exact ⟨by rw [HR.out]; rfl, by rw [HR.out]; exact HW9.out, F', by rw [HR.out]; exact HD9.out, HM9.out, hn9⟩
set_option maxHeartbeats 1000000 in
set_option maxRecDepth 8000 in
theorem snapshot_any {base : Nat} {w : World} {b W : Nat} {F : Nat → Prop} {d : D.DS} {ws : WS} (h : D.Dk base w b F d) (hw : Wm w W b ws) (hFW : ¬ F W) (ho : Wl.Ok d ws) (hR : (d.R.length + 600) * 24 ≤ 140737488355328) (r : ByteArray) (hrz : r.size ≤ 140737488351232) :
    Calls Try.prog 13 #[.pointer (some ⟨W, 0, none⟩), .string r] w fun e w' => e = .returned (.int .i64 (Wl.snapshot d ws r).1) ∧ Wm w' W b (Wl.snapshot d ws r).2.2 ∧ ∃ F', D.Dk base w' b F' (Wl.snapshot d ws r).2.1 ∧ D.Mv (FW F W) (FW F' W) w w' ∧ ¬ F' W := by
  have hmf : ∀ (fn : Fn) (first cap : Array Value) (w : World), (Instr.makeFunc fn first cap).run Try.prog w = .ok (.func fn first cap) w := fun _ _ _ _ => rfl
  have hb2 : Below w.heap.size w ((w.alloc (.cells #[.pointer (some ⟨W, 0, none⟩)] 35)).alloc (.cells #[.string r] 9)) := (below_alloc w _).alloc (by simp) _
  have HP := hide (powered_S (p1 := w.heap.size + 1) (p2 := w.heap.size) (h.below hb2) (hw.below hb2) hFW (r := (inS d ws r).1) (ws1 := (inS d ws r).2) (hide fun _ _ V hV => snapshotIn_any ((h.below hb2).below hV) ((hw.below hb2).below hV) hFW ho hrz hR ((hV.cell (p := ⟨w.heap.size + 1, 0, none⟩) (by simp)).trans (two_Y w _ _ _)) ((hV.cell (p := ⟨w.heap.size, 0, none⟩) (by simp; omega)).trans (two_X w _ _ _))))
  rw [← snapshot_eq] at HP
  have HB2 := hide hb2
  generalize Wl.snapshot d ws r = X at *
  clear h hw ho hb2
  go_enter Try.func13, Try.ntmps13
  go_wp2_with fail
  refine HP.out.mono ?_
  rintro e w9 ⟨rfl, hW9, F', hD9, hM9, hn9⟩
  have HW9 := hide hW9
  have HD9 := hide hD9
  have HM9 := hide ((D.Mv.of_below (F := FW F W) HB2.out).trans hM9)
  clear hW9 hD9 hM9 HP
  go_wp2_with fail
  go_ret
  exact ⟨rfl, HW9.out, F', HD9.out, HM9.out, hn9⟩
theorem wclone_any {w : World} {W b b2 : Nat} {ws : WS} (hw : Wm w W b ws) : Calls Try.prog 22 #[.pointer (some ⟨W, 0, none⟩), .pointer (some ⟨b2, 0, none⟩)] w fun e w' => e = .returned (.pointer (some ⟨w.heap.size, 0, none⟩)) ∧ Wm w' w.heap.size b2 ws ∧ Below w.heap.size w w' := by
  obtain ⟨c0, c1, c2, c3, c4, c5, c6, cz⟩ := wm_cells hw
  have hl := lt_of_block hw
  have HN : Hid (Wm (w.alloc (.cells #[.pointer (some ⟨b2, 0, none⟩), .int .u64 (ws.h.num : Int), .int .u8 (ws.h.half : Int), .int .i64 (ws.h.sn : Int), .int .i64 (ws.h.lg : Int), .int .i64 (ws.rc : Int), .bool ws.gone] 72)) w.heap.size b2 ws) := hide (heap_alloc_new w _)
  clear hw
  go_enter Try.func22, Try.ntmps22
  go_wp2
  go_ret
  exact ⟨rfl, HN.out, below_alloc _ _⟩
end Go.Proofs.Ytojghjgbnnkldaa
end

section
namespace Go.Proofs.Ytojghjgbnnkldaa
open Go.RowKit Go.Shelf
open Wl (Hd WS Log)

theorem fold8_b8 (n : Nat) (h : n < 18446744073709551616) : Pk.fold8 (Pk.big8 n) = n := by
  have e : ∀ x : Nat, (UInt8.ofNat (x % 256)).toNat = x % 256 := fun x => by simp
  simp only [Pk.fold8, Pk.big8, List.foldl_cons, List.foldl_nil, e]
  omega
theorem headB_size (h : Hd) : (Wl.headB h).size = 128 := Wl.headB_size h
theorem headB_list (h : Hd) : (Wl.headB h).data.toList = Wl.headL h := rfl
theorem parse_head (h : Hd) (h0 : h.num < 18446744073709551616) (h1 : h.half < 256) (h2 : h.sn < 4294967296) (h3 : h.lg < 4294967296) : Wl.parse (Wl.headB h) = h := by
  have e1 : bitsV (Wl.headB h) 0 = h.num := by
    unfold bitsV rest
    rw [headB_list, show ((Wl.headL h).drop 0).take 8 = Pk.big8 h.num from rfl, fold8_b8 _ h0]
  have e2 : bitsV ((Wl.headB h).extract 9 (Wl.headB h).size) 0 = h.sn * 4294967296 + h.lg := by
    unfold bitsV rest
    rw [headB_size, show ((Wl.headB h).extract 9 128).data.toList = ((Wl.headL h).drop 9).take 119 by simp [Wl.headB], List.drop_zero, List.take_take, show min 8 119 = 8 from rfl, show ((Wl.headL h).drop 9).take 8 = Pk.big8 (h.sn * 4294967296 + h.lg) from rfl, fold8_b8 _ (by omega)]
  have e3 : ((Wl.headB h).data.toList.getD 8 0).toNat = h.half := by
    rw [headB_list, show (Wl.headL h).getD 8 0 = UInt8.ofNat h.half from rfl]; simp; omega
  unfold Wl.parse
  rw [e1, e2, e3]
  ext
  · rfl
  · rfl
  · show (h.sn * 4294967296 + h.lg) / 4294967296 = h.sn; omega
  · show (h.sn * 4294967296 + h.lg) % 4294967296 = h.lg; omega
/-- a sector of noughts is no head -/
theorem parse_zero : (Wl.parse D.zsec).num = 0 := by decide
theorem logOf_zero {S : List ByteArray} {k : Nat} (h : S.getD k ByteArray.empty = D.zsec) : Wl.logOf S k = none := by
  refine if_neg fun hf => ?_
  have := hf.1.1
  rw [h, parse_zero] at this
  omega
theorem find_fresh (n : Nat) (hn : 2 ≤ n) : Wl.find (List.replicate n D.zsec) = none := by
  have g : ∀ k, k < 2 → (List.replicate n D.zsec).getD k ByteArray.empty = D.zsec := fun k hk => by
    rw [List.getD_eq_getElem?_getD, List.getElem?_replicate, if_pos (by omega)]; rfl
  unfold Wl.find
  rw [logOf_zero (g 0 (by omega)), logOf_zero (g 1 (by omega))]
  rfl
theorem logOf_head {S : List ByteArray} {k : Nat} {h : Hd} (hS : S.getD k ByteArray.empty = Wl.headB h) (hm : Wl.MayBe h (Wl.hb S.length)) (hk : h.num % 2 = k) (hh : Wl.hb S.length ≤ 65536) {l : List ByteArray} (hu : Wl.unframe ⟨((Wl.stands S h).drop h.sn).toArray⟩ = some l) :
    Wl.logOf S k = some ⟨h, ⟨((Wl.stands S h).take h.sn).toArray⟩, l⟩ := by
  have hus := hm.2.2.2.2
  unfold Hd.used at hus
  have hp : Wl.parse (S.getD k ByteArray.empty) = h := by rw [hS]; exact parse_head h (by have := hm.2.1; omega) (by have := hm.2.2.1; omega) (by omega) (by omega)
  rw [logOf_yes (by rw [hp]; exact ⟨hm, hk, hS.symm⟩), hp, hu]
  rfl
end Go.Proofs.Ytojghjgbnnkldaa
end

section
namespace Go.Proofs.Ytojghjgbnnkldaa
open Go.RowKit Go.Shelf
open Wl (Hd WS Log)

theorem rest_len9 (b : ByteArray) (p : Nat) : (rest b p).length = b.size - p := by unfold rest; rw [List.length_drop, ← D.size_list]
theorem text_at9 {b S : ByteArray} {p : Nat} {more : List UInt8} (h : rest b p = Pk.enc S.size ++ (S.data.toList ++ more)) (hS : S.size ≤ 2048) :
    textK b p 2048 = 0 ∧ textV b p = S ∧ numQ b p + numV b p = p + ((Pk.enc S.size).length + S.size) := by
  have hD : Pk.dec 0 0 (rest b p) = (0, S.size, (Pk.enc S.size).length) := by
    rw [h, Pk.dec_enc S.size 0 0 _ (by decide) (by omega) (.inl rfl)]
    simp
  have v0 : numV b p = S.size := by unfold numV; rw [hD]
  have q0 : numQ b p = p + (Pk.enc S.size).length := by unfold numQ; rw [hD]
  have k0 := numK_ok (above := 23) hD hS
  have hl := congrArg List.length h
  rw [rest_len9, List.length_append, List.length_append, ← D.size_list] at hl
  have hp := Pk.enc_pos S.size
  refine ⟨?_, ?_, by rw [q0, v0]; omega⟩
  · unfold textK
    rw [k0, if_neg (by simp), if_neg (by rw [q0, v0]; omega)]
  · unfold textV
    rw [v0, q0]
    apply D.ba_ext
    rw [extract_list]
    have e : rest b (p + (Pk.enc S.size).length) = S.data.toList ++ more := by
      unfold rest at h ⊢
      rw [← List.drop_drop, h, List.drop_left' rfl]
    rw [e, List.take_left' (D.size_list S).symm]
def frames (l : List ByteArray) : List UInt8 := l.flatMap Wl.frame
theorem frames_cons (r : ByteArray) (l : List ByteArray) : frames (r :: l) = Wl.frame r ++ frames l := by simp [frames]
theorem frames_snoc (l : List ByteArray) (r : ByteArray) : frames (l ++ [r]) = frames l ++ Wl.frame r := by simp [frames]
theorem unf_frames {b : ByteArray} (l : List ByteArray) : ∀ n p, (∀ r ∈ l, 1 ≤ r.size ∧ r.size ≤ 2048) → p ≤ b.size → b.size - p ≤ n → rest b p = frames l → Wl.unf b n p = some l := by
  induction l with
  | nil =>
    intro n p _ hp _ h
    have hl := congrArg List.length h
    rw [rest_len9] at hl
    simp [frames] at hl
    exact unf_end (by omega)
  | cons r l ih =>
    intro n p hr hp hn h
    rw [frames_cons] at h
    unfold Wl.frame at h
    rw [List.append_assoc] at h
    have h1 := hr r List.mem_cons_self
    obtain ⟨k0, v0, q0⟩ := text_at9 h h1.2
    have hl := congrArg List.length h
    rw [rest_len9, List.length_append, List.length_append, ← D.size_list] at hl
    have hpos := Pk.enc_pos r.size
    obtain ⟨n', rfl⟩ : ∃ n', n = n' + 1 := ⟨n - 1, by omega⟩
    rw [unf_yes (by omega) ⟨k0, by rw [v0]; omega⟩, v0, q0]
    rw [ih n' _ (fun x hx => hr x (List.mem_cons_of_mem _ hx)) (by omega) (by omega) (by
      unfold rest at h ⊢
      rw [← List.drop_drop, h, ← List.append_assoc, List.drop_left' (by rw [List.length_append, ← D.size_list])])]
    rfl
theorem unframe_frames (l : List ByteArray) (hr : ∀ r ∈ l, 1 ≤ r.size ∧ r.size ≤ 2048) : Wl.unframe ⟨(frames l).toArray⟩ = some l :=
  unf_frames l _ 0 hr (Nat.zero_le _) (Nat.le_refl _) (by simp [rest])
/-- a log stands on its disk -/
structure Con (d : D.DS) (ws : WS) (s : ByteArray) (l : List ByteArray) : Prop where
  ok : d.ok
  wok : Wl.Ok d ws
  live : d.dead = false
  calm : d.left = 0
  head : d.S.getD (ws.h.num % 2) ByteArray.empty = Wl.headB ws.h
  num1 : 1 ≤ ws.h.num
  other : ∀ L, Wl.logOf d.S (1 - ws.h.num % 2) = some L → L.h.num < ws.h.num
  st : Wl.stands d.S ws.h = s.data.toList ++ frames l
  sn : s.size = ws.h.sn
  recs : ∀ r ∈ l, 1 ≤ r.size ∧ r.size ≤ 2048
  rc : ws.rc = l.length
  gone : ws.gone = false
theorem hb_le {d : D.DS} (h : d.ok) : Wl.hb d.S.length ≤ 65536 := by have := hs_le _ h.s1; unfold Wl.hb; omega
theorem Con.log {d : D.DS} {ws : WS} {s : ByteArray} {l : List ByteArray} (h : Con d ws s l) : Wl.logOf d.S (ws.h.num % 2) = some ⟨ws.h, s, l⟩ := by
  have hd : (Wl.stands d.S ws.h).drop ws.h.sn = frames l := by rw [h.st, List.drop_left' (by rw [← D.size_list]; exact h.sn)]
  have ht : (Wl.stands d.S ws.h).take ws.h.sn = s.data.toList := by rw [h.st, List.take_left' (by rw [← D.size_list]; exact h.sn)]
  have := logOf_head (l := l) h.head ⟨h.num1, h.wok.num, h.wok.half, h.wok.sn, h.wok.used⟩ rfl (hb_le h.ok) (by rw [hd]; exact unframe_frames l h.recs)
  rw [this, ht]
theorem Con.find {d : D.DS} {ws : WS} {s : ByteArray} {l : List ByteArray} (h : Con d ws s l) : Wl.find d.S = some ⟨ws.h, s, l⟩ := by
  have h1 := h.log
  have h2 := h.other
  unfold Wl.find
  rcases Nat.mod_two_eq_zero_or_one ws.h.num with e | e
  · rw [e] at h1 h2
    rw [h1]
    cases h3 : Wl.logOf d.S 1 with
    | none => rfl
    | some L => exact if_neg (by have := h2 L h3; show ¬ ws.h.num < L.h.num; omega)
  · rw [e] at h1 h2
    rw [h1]
    cases h3 : Wl.logOf d.S 0 with
    | none => rfl
    | some L => exact if_pos (h2 L h3)
end Go.Proofs.Ytojghjgbnnkldaa
end
