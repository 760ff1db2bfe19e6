import Derived.Test.YtepondcflkledaaGreatMgAZ
import Derived.Test.YtepondcflkledaaGreatMgBC

section
namespace Go.Proofs.YtepondcflkledaaGreat.S
set_option maxRecDepth 20000
open Go.RowKit
open Rc (Ch)
open Q (Rr rr0 Qm Ft Mv)
section
variable {O : Nat → Prop} {base : Nat} {w w0 : World} {kb qb : Nat} {v : Value} {T : Nat → Value} {m : Int} {s : Sx} {c : Ch} {t : Value}
set_option maxHeartbeats 4000000 in
set_option maxRecDepth 20000 in
theorem take_2 (h : Kp O base w kb qb v T m s) (hW : Wf m s) (_ : ∀ g, base ≤ g → O g) (hT : Tx w0 t c.tx) (hB0 : Below base w0 w) (hb0 : w0.heap.size ≤ base) (hl : c.tx.length ≤ 140737488351232) (hc : Rc.check c = 0) (hk : c.k = 2) :
    Calls Tryz.prog 35 #[.pointer (some ⟨kb, 0, none⟩), .agg (chC c t)] w (TP O base m s c kb qb w) := by
  obtain ⟨q, cq, rfl, -, -⟩ := tx_src hT
  have HD : Hid (∀ V, Kp O base V kb qb v T m s → Below base w V → Calls Tryz.prog 97 #[.pointer (some ⟨kb, 0, none⟩), .agg (chC c (.slice q c.tx.length cq))] V (TP O base m s c kb qb V)) := hide fun V hV hb => d_submit hV hW hc hk
  have HDo := hide (fun V => doings_any V)
  have HCk : Hid (∀ V, Below base w V → Calls Tryz.prog 64 #[.agg (chC c (.slice q c.tx.length cq))] V fun e w' => e = .returned (.int .i64 0) ∧ Below V.heap.size V w') := hide fun V hV => by
    have := check_any c (.slice q c.tx.length cq) V (hT.below (hB0.trans hV) hb0) hl
    rw [hc] at this
    exact this
  have hlt := h.lt
  have hlow := h.low
  have hHK := h.below (below_alloc w (.cells (chC c (.slice q c.tx.length cq)) 78))
  have hHB : Below base w (w.alloc (.cells (chC c (.slice q c.tx.length cq)) 78)) := (Below.refl _ w).alloc (by omega) _
  have hHN : (w.alloc (.cells (chC c (.slice q c.tx.length cq)) 78)).heap[w.heap.size]? = some (.cells (chC c (.slice q c.tx.length cq)) 78 (0, 0)) := heap_alloc_new w _
  have hsz := World.size_alloc w (.cells (chC c (.slice q c.tx.length cq)) 78)
  generalize c.tx.length = n at *
  simp only [chC] at hHK hHB hHN hsz HCk HD
  rw [hk] at hHK hHB hHN hsz HCk HD
  have HK := hide hHK
  have HB := hide hHB
  have HN := hide hHN
  have HCe : Hid (∀ V : World, V.heap[w.heap.size]? = some (.cells #[.int .i64 2, .int .i64 c.n, .int .i64 c.jo, .int .i64 c.ba, .int .i64 c.sl, .int .i64 c.li, .int .i64 c.rc, .int .u64 (c.rb : Int), .string c.pr, .slice q n cq] 78 (0, 0)) → V.cell? ⟨w.heap.size, 0, none⟩ = some (.int .i64 2) ∧ V.cell? ⟨w.heap.size, 1, none⟩ = some (.int .i64 c.n) ∧ V.cell? ⟨w.heap.size, 2, none⟩ = some (.int .i64 c.jo) ∧ V.cell? ⟨w.heap.size, 3, none⟩ = some (.int .i64 c.ba) ∧ V.cell? ⟨w.heap.size, 4, none⟩ = some (.int .i64 c.sl) ∧ V.cell? ⟨w.heap.size, 5, none⟩ = some (.int .i64 c.li) ∧ V.cell? ⟨w.heap.size, 6, none⟩ = some (.int .i64 c.rc) ∧ V.cell? ⟨w.heap.size, 7, none⟩ = some (.int .u64 (c.rb : Int)) ∧ V.cell? ⟨w.heap.size, 8, none⟩ = some (.string c.pr) ∧ V.cell? ⟨w.heap.size, 9, none⟩ = some (.slice q n cq)) := hide fun V h1 => by simp [World.cell?, h1]
  obtain ⟨a0, a1, a2, a3, a4, a5, a6, a7, a8, a9⟩ := HCe.out _ HN.out
  clear h hT hB0 hb0 hl hHK hHB hHN hc hW
  have hix : ∀ V : World, (Instr.index 137 (.agg #[.nilFunc, .func (.func 96) #[] #[], .func (.func 97) #[] #[], .func (.func 98) #[] #[], .func (.func 99) #[] #[], .func (.func 100) #[] #[], .func (.func 101) #[] #[]]) (.int .i64 2)).run Tryz.prog V = .ok (.func (.func 97) #[] #[]) V := fun V => by kernel_rfl
  go_enter Tryz.func35, Tryz.ntmps35
  simp only [chC]
  rw [hk]
  clear hk
  go_upto_region 1 with fail
  generalize w.alloc _ = W at *
  go_region_with (first | (go_at_call 64; refine (HCk.out _ HB.out.drew).mono ?_; rintro e V1 ⟨rfl, hb1⟩; have HK1 := hide (HK.out.drew.below hb1); have HB1 := hide (HB.out.drew.trans (hb1.mono (Nat.le_trans hlow (Nat.le_of_lt HK.out.lt)))); have HN1 := hide ((hb1.block w.heap.size (lt_of_block HN.out)).trans HN.out); obtain ⟨b0, b1, b2, b3, b4, b5, b6, b7, b8, b9⟩ := HCe.out _ HN1.out; clear hb1) | (go_at_call 65; refine (HDo.out _).mono ?_; rintro e V2 ⟨rfl, hb2⟩; have HK2 := hide (HK1.out.below hb2); have HB2 := hide (HB1.out.trans (hb2.mono (Nat.le_trans hlow (Nat.le_of_lt HK1.out.lt)))); have HN2 := hide ((hb2.block w.heap.size (lt_of_block HN1.out)).trans HN1.out); obtain ⟨d0, d1, d2, d3, d4, d5, d6, d7, d8, d9⟩ := HCe.out _ HN2.out; clear hb2) | (go_at_call 97; refine (HD.out _ HK2.out HB2.out).mono ?_; rintro e V3 hTP; obtain ⟨r, rfl, hTP2⟩ := hTP.r; have HTP := hide hTP2; clear hTP hTP2))
  all_goals
    go_wp2_with fail
    go_ret
    exact HTP.out.trans HB2.out
end
end Go.Proofs.YtepondcflkledaaGreat.S
end

section
namespace Go.Proofs.YtepondcflkledaaGreat.S
set_option maxRecDepth 20000
open Go.RowKit
open Rc (Ch)
open Q (Rr rr0 Qm Ft Mv)
section
variable {O : Nat → Prop} {base : Nat} {w w0 : World} {kb qb : Nat} {v : Value} {T : Nat → Value} {m : Int} {s : Sx} {c : Ch} {t : Value}
set_option maxHeartbeats 4000000 in
set_option maxRecDepth 20000 in
theorem take_3 (h : Kp O base w kb qb v T m s) (hW : Wf m s) (_ : ∀ g, base ≤ g → O g) (hT : Tx w0 t c.tx) (hB0 : Below base w0 w) (hb0 : w0.heap.size ≤ base) (hl : c.tx.length ≤ 140737488351232) (hc : Rc.check c = 0) (hk : c.k = 3) :
    Calls Tryz.prog 35 #[.pointer (some ⟨kb, 0, none⟩), .agg (chC c t)] w (TP O base m s c kb qb w) := by
  obtain ⟨q, cq, rfl, -, -⟩ := tx_src hT
  have HD : Hid (∀ V, Kp O base V kb qb v T m s → Below base w V → Calls Tryz.prog 98 #[.pointer (some ⟨kb, 0, none⟩), .agg (chC c (.slice q c.tx.length cq))] V (TP O base m s c kb qb V)) := hide fun V hV hb => d_grant hV hW hc hk
  have HDo := hide (fun V => doings_any V)
  have HCk : Hid (∀ V, Below base w V → Calls Tryz.prog 64 #[.agg (chC c (.slice q c.tx.length cq))] V fun e w' => e = .returned (.int .i64 0) ∧ Below V.heap.size V w') := hide fun V hV => by
    have := check_any c (.slice q c.tx.length cq) V (hT.below (hB0.trans hV) hb0) hl
    rw [hc] at this
    exact this
  have hlt := h.lt
  have hlow := h.low
  have hHK := h.below (below_alloc w (.cells (chC c (.slice q c.tx.length cq)) 78))
  have hHB : Below base w (w.alloc (.cells (chC c (.slice q c.tx.length cq)) 78)) := (Below.refl _ w).alloc (by omega) _
  have hHN : (w.alloc (.cells (chC c (.slice q c.tx.length cq)) 78)).heap[w.heap.size]? = some (.cells (chC c (.slice q c.tx.length cq)) 78 (0, 0)) := heap_alloc_new w _
  have hsz := World.size_alloc w (.cells (chC c (.slice q c.tx.length cq)) 78)
  generalize c.tx.length = n at *
  simp only [chC] at hHK hHB hHN hsz HCk HD
  rw [hk] at hHK hHB hHN hsz HCk HD
  have HK := hide hHK
  have HB := hide hHB
  have HN := hide hHN
  have HCe : Hid (∀ V : World, V.heap[w.heap.size]? = some (.cells #[.int .i64 3, .int .i64 c.n, .int .i64 c.jo, .int .i64 c.ba, .int .i64 c.sl, .int .i64 c.li, .int .i64 c.rc, .int .u64 (c.rb : Int), .string c.pr, .slice q n cq] 78 (0, 0)) → V.cell? ⟨w.heap.size, 0, none⟩ = some (.int .i64 3) ∧ V.cell? ⟨w.heap.size, 1, none⟩ = some (.int .i64 c.n) ∧ V.cell? ⟨w.heap.size, 2, none⟩ = some (.int .i64 c.jo) ∧ V.cell? ⟨w.heap.size, 3, none⟩ = some (.int .i64 c.ba) ∧ V.cell? ⟨w.heap.size, 4, none⟩ = some (.int .i64 c.sl) ∧ V.cell? ⟨w.heap.size, 5, none⟩ = some (.int .i64 c.li) ∧ V.cell? ⟨w.heap.size, 6, none⟩ = some (.int .i64 c.rc) ∧ V.cell? ⟨w.heap.size, 7, none⟩ = some (.int .u64 (c.rb : Int)) ∧ V.cell? ⟨w.heap.size, 8, none⟩ = some (.string c.pr) ∧ V.cell? ⟨w.heap.size, 9, none⟩ = some (.slice q n cq)) := hide fun V h1 => by simp [World.cell?, h1]
  obtain ⟨a0, a1, a2, a3, a4, a5, a6, a7, a8, a9⟩ := HCe.out _ HN.out
  clear h hT hB0 hb0 hl hHK hHB hHN hc hW
  have hix : ∀ V : World, (Instr.index 137 (.agg #[.nilFunc, .func (.func 96) #[] #[], .func (.func 97) #[] #[], .func (.func 98) #[] #[], .func (.func 99) #[] #[], .func (.func 100) #[] #[], .func (.func 101) #[] #[]]) (.int .i64 3)).run Tryz.prog V = .ok (.func (.func 98) #[] #[]) V := fun V => by kernel_rfl
  go_enter Tryz.func35, Tryz.ntmps35
  simp only [chC]
  rw [hk]
  clear hk
  go_upto_region 1 with fail
  generalize w.alloc _ = W at *
  go_region_with (first | (go_at_call 64; refine (HCk.out _ HB.out.drew).mono ?_; rintro e V1 ⟨rfl, hb1⟩; have HK1 := hide (HK.out.drew.below hb1); have HB1 := hide (HB.out.drew.trans (hb1.mono (Nat.le_trans hlow (Nat.le_of_lt HK.out.lt)))); have HN1 := hide ((hb1.block w.heap.size (lt_of_block HN.out)).trans HN.out); obtain ⟨b0, b1, b2, b3, b4, b5, b6, b7, b8, b9⟩ := HCe.out _ HN1.out; clear hb1) | (go_at_call 65; refine (HDo.out _).mono ?_; rintro e V2 ⟨rfl, hb2⟩; have HK2 := hide (HK1.out.below hb2); have HB2 := hide (HB1.out.trans (hb2.mono (Nat.le_trans hlow (Nat.le_of_lt HK1.out.lt)))); have HN2 := hide ((hb2.block w.heap.size (lt_of_block HN1.out)).trans HN1.out); obtain ⟨d0, d1, d2, d3, d4, d5, d6, d7, d8, d9⟩ := HCe.out _ HN2.out; clear hb2) | (go_at_call 98; refine (HD.out _ HK2.out HB2.out).mono ?_; rintro e V3 hTP; obtain ⟨r, rfl, hTP2⟩ := hTP.r; have HTP := hide hTP2; clear hTP hTP2))
  all_goals
    go_wp2_with fail
    go_ret
    exact HTP.out.trans HB2.out
end
end Go.Proofs.YtepondcflkledaaGreat.S
end

section
namespace Go.Proofs.YtepondcflkledaaGreat.S
set_option maxRecDepth 20000
open Go.RowKit
open Rc (Ch)
open Q (Rr rr0 Qm Ft Mv)
section
variable {O : Nat → Prop} {base : Nat} {w w0 : World} {kb qb : Nat} {v : Value} {T : Nat → Value} {m : Int} {s : Sx} {c : Ch} {t : Value}
set_option maxHeartbeats 4000000 in
set_option maxRecDepth 20000 in
theorem take_4 (h : Kp O base w kb qb v T m s) (hW : Wf m s) (hO : ∀ g, base ≤ g → O g) (hT : Tx w0 t c.tx) (hB0 : Below base w0 w) (hb0 : w0.heap.size ≤ base) (hl : c.tx.length ≤ 140737488351232) (hc : Rc.check c = 0) (hk : c.k = 4) :
    Calls Tryz.prog 35 #[.pointer (some ⟨kb, 0, none⟩), .agg (chC c t)] w (TP O base m s c kb qb w) := by
  obtain ⟨q, cq, rfl, -, -⟩ := tx_src hT
  have HD : Hid (∀ V, Kp O base V kb qb v T m s → Below base w V → Calls Tryz.prog 99 #[.pointer (some ⟨kb, 0, none⟩), .agg (chC c (.slice q c.tx.length cq))] V (TP O base m s c kb qb V)) := hide fun V hV hb => d_lengthen hV hW hO hT (hB0.trans hb) hb0 hc hk
  have HDo := hide (fun V => doings_any V)
  have HCk : Hid (∀ V, Below base w V → Calls Tryz.prog 64 #[.agg (chC c (.slice q c.tx.length cq))] V fun e w' => e = .returned (.int .i64 0) ∧ Below V.heap.size V w') := hide fun V hV => by
    have := check_any c (.slice q c.tx.length cq) V (hT.below (hB0.trans hV) hb0) hl
    rw [hc] at this
    exact this
  have hlt := h.lt
  have hlow := h.low
  have hHK := h.below (below_alloc w (.cells (chC c (.slice q c.tx.length cq)) 78))
  have hHB : Below base w (w.alloc (.cells (chC c (.slice q c.tx.length cq)) 78)) := (Below.refl _ w).alloc (by omega) _
  have hHN : (w.alloc (.cells (chC c (.slice q c.tx.length cq)) 78)).heap[w.heap.size]? = some (.cells (chC c (.slice q c.tx.length cq)) 78 (0, 0)) := heap_alloc_new w _
  have hsz := World.size_alloc w (.cells (chC c (.slice q c.tx.length cq)) 78)
  generalize c.tx.length = n at *
  simp only [chC] at hHK hHB hHN hsz HCk HD
  rw [hk] at hHK hHB hHN hsz HCk HD
  have HK := hide hHK
  have HB := hide hHB
  have HN := hide hHN
  have HCe : Hid (∀ V : World, V.heap[w.heap.size]? = some (.cells #[.int .i64 4, .int .i64 c.n, .int .i64 c.jo, .int .i64 c.ba, .int .i64 c.sl, .int .i64 c.li, .int .i64 c.rc, .int .u64 (c.rb : Int), .string c.pr, .slice q n cq] 78 (0, 0)) → V.cell? ⟨w.heap.size, 0, none⟩ = some (.int .i64 4) ∧ V.cell? ⟨w.heap.size, 1, none⟩ = some (.int .i64 c.n) ∧ V.cell? ⟨w.heap.size, 2, none⟩ = some (.int .i64 c.jo) ∧ V.cell? ⟨w.heap.size, 3, none⟩ = some (.int .i64 c.ba) ∧ V.cell? ⟨w.heap.size, 4, none⟩ = some (.int .i64 c.sl) ∧ V.cell? ⟨w.heap.size, 5, none⟩ = some (.int .i64 c.li) ∧ V.cell? ⟨w.heap.size, 6, none⟩ = some (.int .i64 c.rc) ∧ V.cell? ⟨w.heap.size, 7, none⟩ = some (.int .u64 (c.rb : Int)) ∧ V.cell? ⟨w.heap.size, 8, none⟩ = some (.string c.pr) ∧ V.cell? ⟨w.heap.size, 9, none⟩ = some (.slice q n cq)) := hide fun V h1 => by simp [World.cell?, h1]
  obtain ⟨a0, a1, a2, a3, a4, a5, a6, a7, a8, a9⟩ := HCe.out _ HN.out
  clear h hT hB0 hb0 hl hHK hHB hHN hc hO hW
  have hix : ∀ V : World, (Instr.index 137 (.agg #[.nilFunc, .func (.func 96) #[] #[], .func (.func 97) #[] #[], .func (.func 98) #[] #[], .func (.func 99) #[] #[], .func (.func 100) #[] #[], .func (.func 101) #[] #[]]) (.int .i64 4)).run Tryz.prog V = .ok (.func (.func 99) #[] #[]) V := fun V => by kernel_rfl
  go_enter Tryz.func35, Tryz.ntmps35
  simp only [chC]
  rw [hk]
  clear hk
  go_upto_region 1 with fail
  generalize w.alloc _ = W at *
  go_region_with (first | (go_at_call 64; refine (HCk.out _ HB.out.drew).mono ?_; rintro e V1 ⟨rfl, hb1⟩; have HK1 := hide (HK.out.drew.below hb1); have HB1 := hide (HB.out.drew.trans (hb1.mono (Nat.le_trans hlow (Nat.le_of_lt HK.out.lt)))); have HN1 := hide ((hb1.block w.heap.size (lt_of_block HN.out)).trans HN.out); obtain ⟨b0, b1, b2, b3, b4, b5, b6, b7, b8, b9⟩ := HCe.out _ HN1.out; clear hb1) | (go_at_call 65; refine (HDo.out _).mono ?_; rintro e V2 ⟨rfl, hb2⟩; have HK2 := hide (HK1.out.below hb2); have HB2 := hide (HB1.out.trans (hb2.mono (Nat.le_trans hlow (Nat.le_of_lt HK1.out.lt)))); have HN2 := hide ((hb2.block w.heap.size (lt_of_block HN1.out)).trans HN1.out); obtain ⟨d0, d1, d2, d3, d4, d5, d6, d7, d8, d9⟩ := HCe.out _ HN2.out; clear hb2) | (go_at_call 99; refine (HD.out _ HK2.out HB2.out).mono ?_; rintro e V3 hTP; obtain ⟨r, rfl, hTP2⟩ := hTP.r; have HTP := hide hTP2; clear hTP hTP2))
  all_goals
    go_wp2_with fail
    go_ret
    exact HTP.out.trans HB2.out
end
end Go.Proofs.YtepondcflkledaaGreat.S
end

section
namespace Go.Proofs.YtepondcflkledaaGreat.S
set_option maxRecDepth 20000
open Go.RowKit
open Rc (Ch)
open Q (Rr rr0 Qm Ft Mv)
section
variable {O : Nat → Prop} {base : Nat} {w w0 : World} {kb qb : Nat} {v : Value} {T : Nat → Value} {m : Int} {s : Sx} {c : Ch} {t : Value}
set_option maxHeartbeats 4000000 in
set_option maxRecDepth 20000 in
theorem take_5 (h : Kp O base w kb qb v T m s) (hW : Wf m s) (_ : ∀ g, base ≤ g → O g) (hT : Tx w0 t c.tx) (hB0 : Below base w0 w) (hb0 : w0.heap.size ≤ base) (hl : c.tx.length ≤ 140737488351232) (hc : Rc.check c = 0) (hk : c.k = 5) :
    Calls Tryz.prog 35 #[.pointer (some ⟨kb, 0, none⟩), .agg (chC c t)] w (TP O base m s c kb qb w) := by
  obtain ⟨q, cq, rfl, -, -⟩ := tx_src hT
  have HD : Hid (∀ V, Kp O base V kb qb v T m s → Below base w V → Calls Tryz.prog 100 #[.pointer (some ⟨kb, 0, none⟩), .agg (chC c (.slice q c.tx.length cq))] V (TP O base m s c kb qb V)) := hide fun V hV hb => d_expire hV hW hc hk
  have HDo := hide (fun V => doings_any V)
  have HCk : Hid (∀ V, Below base w V → Calls Tryz.prog 64 #[.agg (chC c (.slice q c.tx.length cq))] V fun e w' => e = .returned (.int .i64 0) ∧ Below V.heap.size V w') := hide fun V hV => by
    have := check_any c (.slice q c.tx.length cq) V (hT.below (hB0.trans hV) hb0) hl
    rw [hc] at this
    exact this
  have hlt := h.lt
  have hlow := h.low
  have hHK := h.below (below_alloc w (.cells (chC c (.slice q c.tx.length cq)) 78))
  have hHB : Below base w (w.alloc (.cells (chC c (.slice q c.tx.length cq)) 78)) := (Below.refl _ w).alloc (by omega) _
  have hHN : (w.alloc (.cells (chC c (.slice q c.tx.length cq)) 78)).heap[w.heap.size]? = some (.cells (chC c (.slice q c.tx.length cq)) 78 (0, 0)) := heap_alloc_new w _
  have hsz := World.size_alloc w (.cells (chC c (.slice q c.tx.length cq)) 78)
  generalize c.tx.length = n at *
  simp only [chC] at hHK hHB hHN hsz HCk HD
  rw [hk] at hHK hHB hHN hsz HCk HD
  have HK := hide hHK
  have HB := hide hHB
  have HN := hide hHN
  have HCe : Hid (∀ V : World, V.heap[w.heap.size]? = some (.cells #[.int .i64 5, .int .i64 c.n, .int .i64 c.jo, .int .i64 c.ba, .int .i64 c.sl, .int .i64 c.li, .int .i64 c.rc, .int .u64 (c.rb : Int), .string c.pr, .slice q n cq] 78 (0, 0)) → V.cell? ⟨w.heap.size, 0, none⟩ = some (.int .i64 5) ∧ V.cell? ⟨w.heap.size, 1, none⟩ = some (.int .i64 c.n) ∧ V.cell? ⟨w.heap.size, 2, none⟩ = some (.int .i64 c.jo) ∧ V.cell? ⟨w.heap.size, 3, none⟩ = some (.int .i64 c.ba) ∧ V.cell? ⟨w.heap.size, 4, none⟩ = some (.int .i64 c.sl) ∧ V.cell? ⟨w.heap.size, 5, none⟩ = some (.int .i64 c.li) ∧ V.cell? ⟨w.heap.size, 6, none⟩ = some (.int .i64 c.rc) ∧ V.cell? ⟨w.heap.size, 7, none⟩ = some (.int .u64 (c.rb : Int)) ∧ V.cell? ⟨w.heap.size, 8, none⟩ = some (.string c.pr) ∧ V.cell? ⟨w.heap.size, 9, none⟩ = some (.slice q n cq)) := hide fun V h1 => by simp [World.cell?, h1]
  obtain ⟨a0, a1, a2, a3, a4, a5, a6, a7, a8, a9⟩ := HCe.out _ HN.out
  clear h hT hB0 hb0 hl hHK hHB hHN hc hW
  have hix : ∀ V : World, (Instr.index 137 (.agg #[.nilFunc, .func (.func 96) #[] #[], .func (.func 97) #[] #[], .func (.func 98) #[] #[], .func (.func 99) #[] #[], .func (.func 100) #[] #[], .func (.func 101) #[] #[]]) (.int .i64 5)).run Tryz.prog V = .ok (.func (.func 100) #[] #[]) V := fun V => by kernel_rfl
  go_enter Tryz.func35, Tryz.ntmps35
  simp only [chC]
  rw [hk]
  clear hk
  go_upto_region 1 with fail
  generalize w.alloc _ = W at *
  go_region_with (first | (go_at_call 64; refine (HCk.out _ HB.out.drew).mono ?_; rintro e V1 ⟨rfl, hb1⟩; have HK1 := hide (HK.out.drew.below hb1); have HB1 := hide (HB.out.drew.trans (hb1.mono (Nat.le_trans hlow (Nat.le_of_lt HK.out.lt)))); have HN1 := hide ((hb1.block w.heap.size (lt_of_block HN.out)).trans HN.out); obtain ⟨b0, b1, b2, b3, b4, b5, b6, b7, b8, b9⟩ := HCe.out _ HN1.out; clear hb1) | (go_at_call 65; refine (HDo.out _).mono ?_; rintro e V2 ⟨rfl, hb2⟩; have HK2 := hide (HK1.out.below hb2); have HB2 := hide (HB1.out.trans (hb2.mono (Nat.le_trans hlow (Nat.le_of_lt HK1.out.lt)))); have HN2 := hide ((hb2.block w.heap.size (lt_of_block HN1.out)).trans HN1.out); obtain ⟨d0, d1, d2, d3, d4, d5, d6, d7, d8, d9⟩ := HCe.out _ HN2.out; clear hb2) | (go_at_call 100; refine (HD.out _ HK2.out HB2.out).mono ?_; rintro e V3 hTP; obtain ⟨r, rfl, hTP2⟩ := hTP.r; have HTP := hide hTP2; clear hTP hTP2))
  all_goals
    go_wp2_with fail
    go_ret
    exact HTP.out.trans HB2.out
end
end Go.Proofs.YtepondcflkledaaGreat.S
end

section
namespace Go.Proofs.YtepondcflkledaaGreat.S
set_option maxRecDepth 20000
open Go.RowKit
open Rc (Ch)
open Q (Rr rr0 Qm Ft Mv)
section
variable {O : Nat → Prop} {base : Nat} {w w0 : World} {kb qb : Nat} {v : Value} {T : Nat → Value} {m : Int} {s : Sx} {c : Ch} {t : Value}
set_option maxHeartbeats 4000000 in
set_option maxRecDepth 20000 in
theorem take_6 (h : Kp O base w kb qb v T m s) (hW : Wf m s) (_ : ∀ g, base ≤ g → O g) (hT : Tx w0 t c.tx) (hB0 : Below base w0 w) (hb0 : w0.heap.size ≤ base) (hl : c.tx.length ≤ 140737488351232) (hc : Rc.check c = 0) (hk : c.k = 6) :
    Calls Tryz.prog 35 #[.pointer (some ⟨kb, 0, none⟩), .agg (chC c t)] w (TP O base m s c kb qb w) := by
  obtain ⟨q, cq, rfl, -, -⟩ := tx_src hT
  have HD : Hid (∀ V, Kp O base V kb qb v T m s → Below base w V → Calls Tryz.prog 101 #[.pointer (some ⟨kb, 0, none⟩), .agg (chC c (.slice q c.tx.length cq))] V (TP O base m s c kb qb V)) := hide fun V hV hb => d_settle hV hW hc hk
  have HDo := hide (fun V => doings_any V)
  have HCk : Hid (∀ V, Below base w V → Calls Tryz.prog 64 #[.agg (chC c (.slice q c.tx.length cq))] V fun e w' => e = .returned (.int .i64 0) ∧ Below V.heap.size V w') := hide fun V hV => by
    have := check_any c (.slice q c.tx.length cq) V (hT.below (hB0.trans hV) hb0) hl
    rw [hc] at this
    exact this
  have hlt := h.lt
  have hlow := h.low
  have hHK := h.below (below_alloc w (.cells (chC c (.slice q c.tx.length cq)) 78))
  have hHB : Below base w (w.alloc (.cells (chC c (.slice q c.tx.length cq)) 78)) := (Below.refl _ w).alloc (by omega) _
  have hHN : (w.alloc (.cells (chC c (.slice q c.tx.length cq)) 78)).heap[w.heap.size]? = some (.cells (chC c (.slice q c.tx.length cq)) 78 (0, 0)) := heap_alloc_new w _
  have hsz := World.size_alloc w (.cells (chC c (.slice q c.tx.length cq)) 78)
  generalize c.tx.length = n at *
  simp only [chC] at hHK hHB hHN hsz HCk HD
  rw [hk] at hHK hHB hHN hsz HCk HD
  have HK := hide hHK
  have HB := hide hHB
  have HN := hide hHN
  have HCe : Hid (∀ V : World, V.heap[w.heap.size]? = some (.cells #[.int .i64 6, .int .i64 c.n, .int .i64 c.jo, .int .i64 c.ba, .int .i64 c.sl, .int .i64 c.li, .int .i64 c.rc, .int .u64 (c.rb : Int), .string c.pr, .slice q n cq] 78 (0, 0)) → V.cell? ⟨w.heap.size, 0, none⟩ = some (.int .i64 6) ∧ V.cell? ⟨w.heap.size, 1, none⟩ = some (.int .i64 c.n) ∧ V.cell? ⟨w.heap.size, 2, none⟩ = some (.int .i64 c.jo) ∧ V.cell? ⟨w.heap.size, 3, none⟩ = some (.int .i64 c.ba) ∧ V.cell? ⟨w.heap.size, 4, none⟩ = some (.int .i64 c.sl) ∧ V.cell? ⟨w.heap.size, 5, none⟩ = some (.int .i64 c.li) ∧ V.cell? ⟨w.heap.size, 6, none⟩ = some (.int .i64 c.rc) ∧ V.cell? ⟨w.heap.size, 7, none⟩ = some (.int .u64 (c.rb : Int)) ∧ V.cell? ⟨w.heap.size, 8, none⟩ = some (.string c.pr) ∧ V.cell? ⟨w.heap.size, 9, none⟩ = some (.slice q n cq)) := hide fun V h1 => by simp [World.cell?, h1]
  obtain ⟨a0, a1, a2, a3, a4, a5, a6, a7, a8, a9⟩ := HCe.out _ HN.out
  clear h hT hB0 hb0 hl hHK hHB hHN hc hW
  have hix : ∀ V : World, (Instr.index 137 (.agg #[.nilFunc, .func (.func 96) #[] #[], .func (.func 97) #[] #[], .func (.func 98) #[] #[], .func (.func 99) #[] #[], .func (.func 100) #[] #[], .func (.func 101) #[] #[]]) (.int .i64 6)).run Tryz.prog V = .ok (.func (.func 101) #[] #[]) V := fun V => by kernel_rfl
  go_enter Tryz.func35, Tryz.ntmps35
  simp only [chC]
  rw [hk]
  clear hk
  go_upto_region 1 with fail
  generalize w.alloc _ = W at *
  go_region_with (first | (go_at_call 64; refine (HCk.out _ HB.out.drew).mono ?_; rintro e V1 ⟨rfl, hb1⟩; have HK1 := hide (HK.out.drew.below hb1); have HB1 := hide (HB.out.drew.trans (hb1.mono (Nat.le_trans hlow (Nat.le_of_lt HK.out.lt)))); have HN1 := hide ((hb1.block w.heap.size (lt_of_block HN.out)).trans HN.out); obtain ⟨b0, b1, b2, b3, b4, b5, b6, b7, b8, b9⟩ := HCe.out _ HN1.out; clear hb1) | (go_at_call 65; refine (HDo.out _).mono ?_; rintro e V2 ⟨rfl, hb2⟩; have HK2 := hide (HK1.out.below hb2); have HB2 := hide (HB1.out.trans (hb2.mono (Nat.le_trans hlow (Nat.le_of_lt HK1.out.lt)))); have HN2 := hide ((hb2.block w.heap.size (lt_of_block HN1.out)).trans HN1.out); obtain ⟨d0, d1, d2, d3, d4, d5, d6, d7, d8, d9⟩ := HCe.out _ HN2.out; clear hb2) | (go_at_call 101; refine (HD.out _ HK2.out HB2.out).mono ?_; rintro e V3 hTP; obtain ⟨r, rfl, hTP2⟩ := hTP.r; have HTP := hide hTP2; clear hTP hTP2))
  all_goals
    go_wp2_with fail
    go_ret
    exact HTP.out.trans HB2.out
end
end Go.Proofs.YtepondcflkledaaGreat.S
end

section
namespace Go.Proofs.YtepondcflkledaaGreat.S
set_option maxRecDepth 20000
open Go.RowKit
open Rc (Ch)
open Q (Rr rr0 Qm Ft Mv)
section
variable {O : Nat → Prop} {base : Nat} {w w0 : World} {kb qb : Nat} {v : Value} {T : Nat → Value} {m : Int} {s : Sx} {c : Ch} {t : Value}
theorem ktake_any (h : Kp O base w kb qb v T m s) (hW : Wf m s) (hO : ∀ g, base ≤ g → O g) (hT : Tx w0 t c.tx) (hB0 : Below base w0 w) (hb0 : w0.heap.size ≤ base) (hl : c.tx.length ≤ 140737488351232) : Calls Tryz.prog 35 #[.pointer (some ⟨kb, 0, none⟩), .agg (chC c t)] w (TP O base m s c kb qb w) := by
  rcases Rc.check_three c with hc | hc | hc
  · have hk := ((Rc.check_iff c).1 hc).1
    have hk6 : c.k = 1 ∨ c.k = 2 ∨ c.k = 3 ∨ c.k = 4 ∨ c.k = 5 ∨ c.k = 6 := by omega
    rcases hk6 with e | e | e | e | e | e
    · exact take_1 h hW hO hT hB0 hb0 hl hc e
    · exact take_2 h hW hO hT hB0 hb0 hl hc e
    · exact take_3 h hW hO hT hB0 hb0 hl hc e
    · exact take_4 h hW hO hT hB0 hb0 hl hc e
    · exact take_5 h hW hO hT hB0 hb0 hl hc e
    · exact take_6 h hW hO hT hB0 hb0 hl hc e
  · exact take_80 h hW hO hT hB0 hb0 hl hc
  · exact take_81 h hW hO hT hB0 hb0 hl hc
end
end Go.Proofs.YtepondcflkledaaGreat.S
end

section
namespace Go.Proofs.YtepondcflkledaaGreat.S
set_option maxRecDepth 20000
open Go.RowKit
open Rc (Ch)
open Q (Rr rr0 Qm Ft Mv)

/-- what Apply answers -/
inductive AP (N : Nat → Prop) (m : Int) (s : Sx) (l : List Ch) (b : Nat) (w : World) (e : Ending) (w' : World) : Prop
  | no : app m s l = none → e = .returned (.tuple #[.int .i64 (bad m s l : Int), .int .i64 170]) → Below w.heap.size w w' → AP N m s l b w e w'
  | yes (s' : Sx) : app m s l = some s' → e = .returned (.tuple #[.int .i64 0, .int .i64 0]) → Sd N w' b m s' → Mv (fun g => g = b) (fun g => g = b) w w' → AP N m s l b w e w'
theorem sd_store {N : Nat → Prop} {w w1 : World} {b kb' kb qb : Nat} {v : Value} {T : Nat → Value} {m : Int} {s' : Sx} (hb : w.heap[b]? = some (.cells #[.pointer (some ⟨kb', 0, none⟩)] 59 (0, 0))) (hN : ∀ g, N g → g < w.heap.size) (hNb : N b)
    (hK : Kp (fun g => ¬ N g) w.heap.size w1 kb qb v T m s') (hB : Below w.heap.size w w1) : Sd N (w1.setCell ⟨b, 0, none⟩ (.pointer (some ⟨kb, 0, none⟩))) b m s' ∧ Mv (fun g => g = b) (fun g => g = b) w (w1.setCell ⟨b, 0, none⟩ (.pointer (some ⟨kb, 0, none⟩))) := by
  have hlt := lt_of_block hb
  have hb1 := (hB.block b hlt).trans hb
  have hne : ∀ g, g ≠ b → (w1.setCell ⟨b, 0, none⟩ (.pointer (some ⟨kb, 0, none⟩))).heap[g]? = w1.heap[g]? := fun g hg => Below.heap_setCell _ ⟨b, 0, none⟩ _ g hg
  have hft : ∀ g, Ft qb v g → w.heap.size ≤ g := fun g hg => (hK.q.ftlt g hg).1
  have hlow := hK.low
  refine ⟨⟨kb, qb, v, T, by rw [cells_set hb1]; rfl, Kp.weak (hK.keep (by rw [Q.setCell_size]; exact Nat.le_refl _) fun g hg => hne g ?_) (Nat.zero_le _) (fun _ _ _ _ h => h), fun h => by have := hN _ h; omega, fun g hg h => by have := hN _ h; have := hft g hg; omega⟩, ⟨hB.os, hB.tape, hB.output, by rw [Q.setCell_size]; exact hB.size, fun g hg hn => (hne g hn).trans (hB.block g hg), fun g hg => .inl hg⟩⟩
  rcases hg with rfl | hg | ⟨i, hi, hg⟩
  · omega
  · have := hft g hg; omega
  · rintro rfl
    exact (hK.ap i hi g hg).2.2 hNb
set_option maxHeartbeats 4000000 in
set_option maxRecDepth 20000 in
theorem apply_any {N : Nat → Prop} {w : World} {b : Nat} {m : Int} {s : Sx} {va : Value} {l : List Ch} (h : Sd N w b m s) (hN : ∀ g, N g → g < w.heap.size) (hNb : N b) (hW : Wf m s) (hR : Rw w va l) (hl : l.length ≤ 1407374883553280) :
    Calls Tryz.prog 13 #[.pointer (some ⟨b, 0, none⟩), va] w (AP N m s l b w) := by
  obtain ⟨kb, qb, v, T, hb, hK, hnk, hnf⟩ := h.ex
  obtain ⟨pa, cap, rfl, hx⟩ := hR
  have HX := hide hx
  have c0 : w.cell? ⟨b, 0, none⟩ = some (.pointer (some ⟨kb, 0, none⟩)) := by simp [World.cell?, hb]
  have HC := hide (kclone_any hK hW.ok.len)
  have HBb := hide hb
  have HN := hide hN
  have HNb := hide hNb
  have HW := hide hW
  have HST : Hid (∀ kb' qb' v' T' (w1 : World) s', Kp (fun g => ¬ N g) w.heap.size w1 kb' qb' v' T' m s' → Below w.heap.size w w1 → Sd N (w1.setCell ⟨b, 0, none⟩ (.pointer (some ⟨kb', 0, none⟩))) b m s' ∧ Mv (fun g => g = b) (fun g => g = b) w (w1.setCell ⟨b, 0, none⟩ (.pointer (some ⟨kb', 0, none⟩)))) := hide fun kb' qb' v' T' w1 s' h1 h2 => sd_store hb hN hNb h1 h2
  have HRB : Hid (∀ c ∈ l, c.rb < 18446744073709551616) := hide fun c hc => by
    obtain ⟨j, hj, e⟩ := List.getElem_of_mem hc
    obtain ⟨_, _, _, _, hcc⟩ := hx (by omega)
    obtain ⟨_, _, _, h3, _⟩ := hcc j hj
    rw [getElem!_pos l j hj, e] at h3
    exact h3
  have hblt := lt_of_block hb
  clear h hx hK hnk hnf hb hN hNb hW
  go_enter Tryz.func13, Tryz.ntmps13
  go_wp2_with fail
  refine HC.out.mono ?_
  rintro e w1 ⟨kb1, qb1, v1, rfl, hk1, hb1⟩
  have HK1 := hide hk1
  have HB1 := hide hb1
  clear hk1 hb1 HC c0
  go_wp2_with fail
  go_loopw [16] (fun u wr => ∃ (k : Nat) (st : Sx) (v' : Value) (T' : Nat → Value), u = .int .i64 (k : Int) ∧ k ≤ l.length ∧ Hid (app m s (l.take k) = some st) ∧ Hid (Kp (fun g => ¬ N g) w.heap.size wr kb1 qb1 v' T' m st) ∧ Hid (Below w.heap.size w wr)) (fun u _ => l.length - (intOf u).toNat)
  case atStart => exact ⟨0, s, v1, T, rfl, Nat.zero_le _, hide rfl, HK1, HB1⟩
  case round =>
    clear HK1 HB1
    obtain ⟨k, st, v', T', rfl, hk, HA, HK, HB⟩ := hrel
    by_cases hkl : k < l.length
    · obtain ⟨bb, off, rfl, hlt, hcc⟩ := HX.out (by omega)
      obtain ⟨t, ht, htl, hrb, hc⟩ := hcc k hkl
      have hsz := HB.out.size
      have hcw : ∀ i u, (chC l[k]! t)[i]? = some u → wr.cell? ⟨bb, off + k * 10 + i, none⟩ = some u := fun i u hi => (HB.out.cell (p := ⟨bb, off + k * 10 + i, none⟩) hlt).trans (hc i u hi)
      have HWst := hide (app_wf HW.out (fun c hc => HRB.out c (List.mem_of_mem_take hc)) HA.out)
      have HS := hide (app_step m hkl HA.out)
      have HBd : Hid (one m st l[k]! = none → bad m s l = k ∧ app m s l = none) := hide fun h0 => bad_at m l s st k hkl HA.out h0
      have HWr := hide (HK.out.below (below_alloc wr (.cells (chC l[k]! t) 78)))
      have HBr : Hid (Below w.heap.size w (wr.alloc (.cells (chC l[k]! t) 78))) := hide (HB.out.alloc hsz _)
      have HT := hide (ktake_any (w0 := w) HWr.out HWst.out (fun g hg hn => by have := HN.out g hn; omega) ht HBr.out (Nat.le_refl _) htl)
      have hbl : bb < wr.heap.size := Nat.lt_of_lt_of_le hlt hsz
      generalize l[k]! = c at *
      obtain ⟨pt, capt, rfl, -, -⟩ := tx_src ht
      have a0 : wr.cell? ⟨bb, off + k * 10, none⟩ = some (.int .i64 c.k) := hcw 0 _ rfl
      have a1 : wr.cell? ⟨bb, off + k * 10 + 1, none⟩ = some (.int .i64 c.n) := hcw 1 _ rfl
      have a2 : wr.cell? ⟨bb, off + k * 10 + 2, none⟩ = some (.int .i64 c.jo) := hcw 2 _ rfl
      have a3 : wr.cell? ⟨bb, off + k * 10 + 3, none⟩ = some (.int .i64 c.ba) := hcw 3 _ rfl
      have a4 : wr.cell? ⟨bb, off + k * 10 + 4, none⟩ = some (.int .i64 c.sl) := hcw 4 _ rfl
      have a5 : wr.cell? ⟨bb, off + k * 10 + 5, none⟩ = some (.int .i64 c.li) := hcw 5 _ rfl
      have a6 : wr.cell? ⟨bb, off + k * 10 + 6, none⟩ = some (.int .i64 c.rc) := hcw 6 _ rfl
      have a7 : wr.cell? ⟨bb, off + k * 10 + 7, none⟩ = some (.int .u64 (c.rb : Int)) := hcw 7 _ rfl
      have a8 : wr.cell? ⟨bb, off + k * 10 + 8, none⟩ = some (.string c.pr) := hcw 8 _ rfl
      have a9 : wr.cell? ⟨bb, off + k * 10 + 9, none⟩ = some (.slice pt c.tx.length capt) := hcw 9 _ rfl
      have hki : (k : Int) < (l.length : Int) := by omega
      clear hcw hc hcc ht HK HB HWr
      go_wp2_with fail
      refine HT.out.mono ?_
      rintro e w2 (⟨h1, rfl, h2⟩ | ⟨s2, v2, T2, h1, rfl, h2, h3⟩)
      · have HE := hide (HBd.out h1)
        have HB2 := hide (HBr.out.trans h2)
        clear h1 h2
        go_wp2_with fail
        go_ret2
        exact .no HE.out.2 (by rw [HE.out.1]; rfl) HB2.out
      · have HA2 : Hid (app m s (l.take (k + 1)) = some s2) := hide (HS.out.trans h1)
        have HK2 := hide h2
        have HB2 := hide (HBr.out.trans h3)
        clear h1 h2 h3
        go_wp2_with fail
        go_roundw
        case rel => exact ⟨k + 1, s2, v2, T2, by go_num, by omega, HA2, HK2, HB2⟩
        case measure => simp only [intOf]; omega
    · obtain rfl : k = l.length := by omega
      have hki : ¬ ((l.length : Int) < (l.length : Int)) := by omega
      have HE : Hid (app m s l = some st) := hide (by have := HA.out; rw [List.take_length] at this; exact this)
      have hbw : wr.heap[b]? = some (.cells #[.pointer (some ⟨kb, 0, none⟩)] 59 (0, 0)) := (HB.out.block b hblt).trans HBb.out
      have cb : wr.cell? ⟨b, 0, none⟩ = some (.pointer (some ⟨kb, 0, none⟩)) := by simp [World.cell?, hbw]
      have zb : wr.frozen? ⟨b, 0, none⟩ = false := by simp [World.frozen?, hbw]
      have hblr := lt_of_block hbw
      have HF := hide (HST.out _ _ _ _ _ _ HK.out HB.out)
      clear hbw HA HK HB
      go_wp2_with fail
      go_ret2
      exact .yes st HE.out rfl HF.out.1 HF.out.2
end Go.Proofs.YtepondcflkledaaGreat.S
end
