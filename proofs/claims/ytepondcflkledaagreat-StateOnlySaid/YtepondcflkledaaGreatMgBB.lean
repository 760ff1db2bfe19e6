import Derived.Test.YtepondcflkledaaGreatMgBA
import Derived.Test.YtepondcflkledaaGreatMgAS
import Derived.Lib.AppendStr

section
namespace Go.Proofs.YtepondcflkledaaGreat.S
set_option maxRecDepth 20000
open Go.RowKit
open Rc (Ch)
open Q (Rr rr0 Qm Ft Mv)

/-- the writer: its block G, the bytes so far -/
structure Wo (n0 G : Nat) (acc : List UInt8) (w : World) : Prop where
  wt : ∃ v, w.heap[G]? = some (.cells #[v] 131 (0, 0)) ∧ w.ownsRow n0 5 1 v acc.length (bc acc)
  hG : n0 ≤ G
theorem Wo.szG {n0 G : Nat} {acc : List UInt8} {w : World} (h : Wo n0 G acc w) : n0 ≤ w.heap.size := by
  obtain ⟨v, hv, _⟩ := h.wt
  exact Nat.le_of_lt (Nat.lt_of_le_of_lt h.hG (lt_of_block hv))
theorem Wo.below {n0 G : Nat} {acc : List UInt8} {w w' : World} (h : Wo n0 G acc w) (hb : Below w.heap.size w w') : Wo n0 G acc w' := by
  obtain ⟨v, hv, ho⟩ := h.wt
  exact ⟨⟨v, (hb.block _ (lt_of_block hv)).trans hv, own_keep ho fun X hX => hb.block _ (ho.lt X hX).2⟩, h.hG⟩
/-- what is no byte and no writer stays -/
def Kx (w w' : World) : Prop := ∀ (X : Nat) (cs : Array Value) (ty : TypeId), w.heap[X]? = some (.cells cs ty (0, 0)) → ty ≠ 5 → ty ≠ 131 → w'.heap[X]? = some (.cells cs ty (0, 0))
theorem Kx.trans {a b c : World} (h : Kx a b) (k : Kx b c) : Kx a c := fun X cs ty h1 h2 h3 => k X cs ty (h X cs ty h1 h2 h3) h2 h3
theorem kx_below {w w' : World} (hb : Below w.heap.size w w') : Kx w w' := fun _ _ _ h _ _ => (hb.block _ (lt_of_block h)).trans h
theorem wlay_after {n0 G : Nat} {acc : List UInt8} {w w1 : World} {v v' : Value} {s : ByteArray} (HH : Wo n0 G acc w) (HV : w.heap[G]? = some (.cells #[v] 131 (0, 0))) (HO : w.ownsRow n0 5 1 v acc.length (bc acc))
    (hown : w1.ownsRow n0 5 1 v' (acc.length + s.size) (bc acc ++ Go.Lib.strCells s)) (hgrow : w.grownBy w1 v.ownBlock) :
    w1.cell? ⟨G, 0, none⟩ = some v ∧ w1.frozen? ⟨G, 0, none⟩ = false ∧ Wo n0 G (acc ++ s.data.toList) (w1.setCell ⟨G, 0, none⟩ v') ∧ Below n0 w (w1.setCell ⟨G, 0, none⟩ v') ∧ Kx w (w1.setCell ⟨G, 0, none⟩ v') := by
  have hGo := own_ty HO HV (by decide)
  have hg1 : w1.heap[G]? = some (.cells #[v] 131 (0, 0)) := (hgrow.block _ (lt_of_block HV) (fun e => hGo e.symm)).trans HV
  refine ⟨by simp [World.cell?, hg1], by simp [World.frozen?, hg1], ?_⟩
  rw [bc_str', ← bc_append, show acc.length + s.size = (acc ++ s.data.toList).length by rw [List.length_append]; rfl] at hown
  have hGo' := own_ty hown hg1 (by decide)
  have hne : ∀ g, g ≠ G → (w1.setCell ⟨G, 0, none⟩ v').heap[g]? = w1.heap[g]? := fun g hg => Below.heap_setCell _ ⟨G, 0, none⟩ _ g hg
  refine ⟨⟨⟨v', by rw [cells_set hg1]; rfl, own_keep hown fun X hX => hne X fun e => hGo' (e ▸ hX)⟩, HH.hG⟩, ?_, ?_⟩
  · exact ((Below.refl _ _).grown hgrow HH.szG (fun k hk => (HO.lt k hk).1)).setCell HH.hG _
  · intro X cs ty h1 h2 h3
    have hx1 : w1.heap[X]? = some (.cells cs ty (0, 0)) := (hgrow.block _ (lt_of_block h1) (fun e => own_ty HO h1 h2 e.symm)).trans h1
    refine (hne X fun e => ?_).trans hx1
    subst e
    rw [HV] at h1
    simp only [Option.some.injEq, Obj.cells.injEq] at h1
    exact h3 h1.2.1.symm
set_option maxHeartbeats 400000 in
set_option maxRecDepth 8000 in
theorem wlay_any {n0 G : Nat} {acc : List UInt8} {w : World} (h : Wo n0 G acc w) (s : ByteArray) (hl : acc.length + s.size ≤ 140737488351232) :
    Calls Tryz.prog 90 #[.pointer (some ⟨G, 0, none⟩), .string s] w fun e w' => e = .returned (.tuple #[]) ∧ Wo n0 G (acc ++ s.data.toList) w' ∧ Below n0 w w' ∧ Kx w w' := by
  obtain ⟨i0, hi, hz0, hz1, hz2⟩ := info_parts Tryz.infoB
  obtain ⟨v, hv, ho⟩ := h.wt
  have HO := hide ho
  have HA := hide (fun (w1 : World) (v' : Value) => wlay_after (w1 := w1) (v' := v') (s := s) h hv ho)
  have cg : w.cell? ⟨G, 0, none⟩ = some v := by simp [World.cell?, hv]
  have hsz := h.szG
  clear h ho hv
  go_enter Tryz.func90, Tryz.ntmps90
  go_wp2_with (at_builtin; refine Go.Lib.wpList_append_own_string _ rfl _ _ 129 9 rfl n0 5 i0 Tryz.underlying129 Tryz.underlying9 hi hz0 hz1 hz2 v acc.length (bc acc) rfl HO.out s rfl (by unfold maxLen; omega) (by omega) hsz ?_; intro v' w1 hown hgrow hnil; obtain ⟨p', cap', rfl⟩ := own_slice hown; obtain ⟨cg1, zg1, hf⟩ := HA.out _ _ hown hgrow; replace hf := hide hf)
  go_end0
  exact ⟨rfl, hf.out⟩
/-- numbers, one behind the other -/
def encs (xs : List Nat) : List UInt8 := xs.flatMap Pk.enc
theorem encs_step {xs : List Nat} {k : Nat} (h : k < xs.length) : encs (xs.take (k + 1)) = encs (xs.take k) ++ Pk.enc xs[k]! := by
  rw [← List.take_append_getElem h, getElem!_pos xs k h]; simp only [encs, List.flatMap_append, List.flatMap_cons, List.flatMap_nil, List.append_nil]
theorem encs_len (xs : List Nat) (h : ∀ x ∈ xs, x < 18446744073709551616) : (encs xs).length ≤ xs.length * 10 := by
  induction xs with
  | nil => simp [encs]
  | cons x xs ih =>
    have h1 := Pk.enc_ten (h x (by simp))
    have h2 := ih fun y hy => h y (by simp [hy])
    simp only [encs, List.flatMap_cons, List.length_append, List.length_cons] at h2 ⊢
    omega
set_option maxHeartbeats 1000000 in
set_option maxRecDepth 8000 in
theorem wnums_any {n0 G : Nat} {acc : List UInt8} {w : World} (h : Wo n0 G acc w) {g : Nat} {xs : List Nat} (hg : w.heap[g]? = some (.cells (xs.map fun x : Nat => Value.int .i64 (x : Int)).toArray 3 (0, 0))) (hx : ∀ x ∈ xs, x < 9223372036854775808) (hn : xs.length ≤ 8) (hl : acc.length ≤ 100000000) :
    Calls Tryz.prog 61 #[.pointer (some ⟨G, 0, none⟩), .slice (some ⟨g, 0, none⟩) xs.length xs.length] w fun e w' => e = .returned (.tuple #[]) ∧ Wo n0 G (acc ++ encs xs) w' ∧ Below n0 w w' ∧ Kx w w' := by
  have HG := hide hg
  have H0 := hide h
  have HX : Hid (∀ k, k < xs.length → xs[k]! < 9223372036854775808) := hide fun k hk => hx _ (by rw [getElem!_pos xs k hk]; exact List.getElem_mem hk)
  have HLn : Hid (∀ k, (encs (xs.take k)).length ≤ 80) := hide fun k => by
    have h1 := encs_len (xs.take k) fun x hx' => by have := hx x (List.mem_of_mem_take hx'); omega
    have h2 : (xs.take k).length ≤ 8 := by rw [List.length_take]; omega
    omega
  have HCx : Hid (∀ (W : World) k, k < xs.length → W.heap[g]? = some (.cells (xs.map fun x : Nat => Value.int .i64 (x : Int)).toArray 3 (0, 0)) → W.cell? ⟨g, k, none⟩ = some (.int .i64 (xs[k]! : Int))) := hide fun W k hk hW => by
    simp only [World.cell?, hW]
    simp [hk]
  have hsz := h.szG
  clear h hg hx
  go_enter Tryz.func61, Tryz.ntmps61
  go_wp2_with fail
  go_loopw [8] (fun u wr => ∃ k : Nat, u = .int .i64 (k : Int) ∧ k ≤ xs.length ∧ Hid (Wo n0 G (acc ++ encs (xs.take k)) wr) ∧ Hid (Below n0 w wr) ∧ Hid (Kx w wr)) (fun u _ => xs.length - (intOf u).toNat)
  case atStart => exact ⟨0, rfl, Nat.zero_le _, hide (by have := H0.out; simpa [encs] using this), hide (Below.refl _ _), hide fun _ _ _ h _ _ => h⟩
  case round =>
    obtain ⟨k, rfl, hk, HK, HB, HKx⟩ := hrel
    by_cases hkl : k < xs.length
    · have hgk := HKx.out g _ _ HG.out (by decide) (by decide)
      have hck := HCx.out wr k hkl hgk
      have hxk := HX.out k hkl
      have hgl := lt_of_block hgk
      have HS := hide (encs_step hkl)
      have hln := HLn.out k
      generalize xs[k]! = x at *
      have hki : (k : Int) < (xs.length : Int) := by omega
      have h10 := Pk.enc_ten (n := x) (by omega)
      have HT := hide (pnum_any x (by omega))
      clear hgk
      go_wp2_with fail
      refine (HT.out _).mono ?_
      rintro e w2 ⟨rfl, hb2⟩
      have hS : (⟨(Pk.enc x).toArray⟩ : ByteArray).size = (Pk.enc x).length := by simp [ByteArray.size]
      have HL := hide (wlay_any (HK.out.below hb2) ⟨(Pk.enc x).toArray⟩ (by rw [List.length_append]; omega))
      have HB2 := hide (And.intro (HB.out.trans (hb2.mono HK.out.szG)) (HKx.out.trans (kx_below hb2)))
      clear HK HB HKx hb2 HT
      go_wp2_with fail
      refine HL.out.mono ?_
      rintro e w3 ⟨rfl, h3, hb3, hk3⟩
      have H3 := hide h3
      have HB3 := hide (HB2.out.1.trans hb3)
      have HK3 := hide (HB2.out.2.trans hk3)
      clear h3 hb3 hk3 HL HB2
      go_wp2_with fail
      go_roundw
      case rel => exact ⟨k + 1, by go_num, by omega, hide (by have := H3.out; rw [HS.out, ← List.append_assoc]; exact this), HB3, HK3⟩
      case measure => simp only [intOf]; omega
    · obtain rfl : k = xs.length := by omega
      have hki : ¬ ((xs.length : Int) < (xs.length : Int)) := by omega
      have HF : Hid (Wo n0 G (acc ++ encs xs) wr) := hide (by have := HK.out; rw [List.take_length] at this; exact this)
      clear HK
      go_wp2_with fail
      go_end0
      exact ⟨rfl, HF.out, HB.out, HKx.out⟩
end Go.Proofs.YtepondcflkledaaGreat.S
end

section
namespace Go.Proofs.YtepondcflkledaaGreat.S
set_option maxRecDepth 20000
open Go.RowKit
open Rc (Ch)
open Q (Rr rr0 Qm Ft Mv)

/-- a job's bytes -/
def jb (r : Rr) (p : Pp) : List UInt8 := encs [r.st.toNat, r.att.toNat, r.bdg.toNat, r.node.toNat, r.life.toNat, r.code.toNat] ++ (Pk.big8 r.bits.toNat ++ ((Pk.enc p.pr.size ++ p.pr.data.toList) ++ (encs [p.lg.length] ++ Rc.layT p.lg)))
theorem text_data (a : List UInt8) (s : ByteArray) : ((⟨a.toArray⟩ : ByteArray) ++ s).data.toList = a ++ s.data.toList := by simp
set_option maxHeartbeats 1000000 in
set_option maxRecDepth 20000 in
theorem wjob_any {w0 w : World} {n0 G : Nat} {acc : List UInt8} (h : Wo n0 G acc w) (hB : Below n0 w0 w) (hb0 : w0.heap.size ≤ n0) {j : Int} {a1 a2 a3 a4 a5 a6 a7 : Nat} {pr : ByteArray} {t : Value} {lg : List ByteArray} (hT : Tx w0 t lg)
    (h1 : a1 < 9223372036854775808 ∧ a2 < 9223372036854775808 ∧ a3 < 9223372036854775808 ∧ a4 < 9223372036854775808 ∧ a5 < 9223372036854775808 ∧ a6 < 9223372036854775808) (h7 : a7 < 18446744073709551616) (hp : pr.size ≤ 1024) (hlg : lg.length ≤ 32) (h32 : ∀ x ∈ lg, x.size ≤ 32) (hl : acc.length ≤ 90000000) :
    Calls Tryz.prog 62 #[.pointer (some ⟨G, 0, none⟩), .agg (plC ⟨j, a1, a2, a3, a4, a5, a6, a7⟩ pr t)] w fun e w' => e = .returned (.tuple #[]) ∧ Wo n0 G (acc ++ jb ⟨j, a1, a2, a3, a4, a5, a6, a7⟩ ⟨pr, lg⟩) w' ∧ Below n0 w w' := by
  obtain ⟨p, cap, rfl, hx⟩ := hT
  have HX := hide hx
  have H32 : Hid (∀ k, k < lg.length → (lg[k]!).size ≤ 32) := hide fun k hk => h32 _ (by rw [getElem!_pos lg k hk]; exact List.getElem_mem hk)
  have HTL : Hid (∀ k, (Rc.layT (lg.take k)).length ≤ 2000) := hide fun k => by
    have := layT_len (lg.take k) fun x hx' => h32 x (List.mem_of_mem_take hx')
    have h2 : (lg.take k).length ≤ 32 := by rw [List.length_take]; omega
    omega
  have HJB : Hid (jb ⟨j, a1, a2, a3, a4, a5, a6, a7⟩ ⟨pr, lg⟩ = encs [a1, a2, a3, a4, a5, a6] ++ (Pk.big8 a7 ++ ((Pk.enc pr.size ++ pr.data.toList) ++ (encs [lg.length] ++ Rc.layT lg)))) := hide (by simp [jb])
  have HBw := hide hB
  have hsz := h.szG
  have hs1 := World.size_alloc w (.cells #[.int .i64 j, .int .i64 (a1 : Int), .int .i64 (a2 : Int), .int .i64 (a3 : Int), .int .i64 (a4 : Int), .int .i64 (a5 : Int), .int .i64 (a6 : Int), .int .u64 (a7 : Int), .string pr, .slice p lg.length cap] 84)
  have hn1 := heap_alloc_new w (.cells #[.int .i64 j, .int .i64 (a1 : Int), .int .i64 (a2 : Int), .int .i64 (a3 : Int), .int .i64 (a4 : Int), .int .i64 (a5 : Int), .int .i64 (a6 : Int), .int .u64 (a7 : Int), .string pr, .slice p lg.length cap] 84)
  have hbA := below_alloc w (.cells #[.int .i64 j, .int .i64 (a1 : Int), .int .i64 (a2 : Int), .int .i64 (a3 : Int), .int .i64 (a4 : Int), .int .i64 (a5 : Int), .int .i64 (a6 : Int), .int .u64 (a7 : Int), .string pr, .slice p lg.length cap] 84)
  have hW1 := h.below hbA
  have hB1 : Below n0 w (w.alloc (.cells #[.int .i64 j, .int .i64 (a1 : Int), .int .i64 (a2 : Int), .int .i64 (a3 : Int), .int .i64 (a4 : Int), .int .i64 (a5 : Int), .int .i64 (a6 : Int), .int .u64 (a7 : Int), .string pr, .slice p lg.length cap] 84)) := (Below.refl _ w).alloc hsz _
  generalize hWa : w.alloc (.cells #[.int .i64 j, .int .i64 (a1 : Int), .int .i64 (a2 : Int), .int .i64 (a3 : Int), .int .i64 (a4 : Int), .int .i64 (a5 : Int), .int .i64 (a6 : Int), .int .u64 (a7 : Int), .string pr, .slice p lg.length cap] 84) = Wa at *
  have hs2 := World.size_alloc Wa (.cells #[.int .i64 j, .int .i64 (a1 : Int), .int .i64 (a2 : Int), .int .i64 (a3 : Int), .int .i64 (a4 : Int), .int .i64 (a5 : Int), .int .i64 (a6 : Int), .int .u64 (a7 : Int)] 82)
  have hn2 := heap_alloc_new Wa (.cells #[.int .i64 j, .int .i64 (a1 : Int), .int .i64 (a2 : Int), .int .i64 (a3 : Int), .int .i64 (a4 : Int), .int .i64 (a5 : Int), .int .i64 (a6 : Int), .int .u64 (a7 : Int)] 82)
  have hbB := below_alloc Wa (.cells #[.int .i64 j, .int .i64 (a1 : Int), .int .i64 (a2 : Int), .int .i64 (a3 : Int), .int .i64 (a4 : Int), .int .i64 (a5 : Int), .int .i64 (a6 : Int), .int .u64 (a7 : Int)] 82)
  have hW2 := hW1.below hbB
  have hB2 := hB1.alloc (by omega) (.cells #[.int .i64 j, .int .i64 (a1 : Int), .int .i64 (a2 : Int), .int .i64 (a3 : Int), .int .i64 (a4 : Int), .int .i64 (a5 : Int), .int .i64 (a6 : Int), .int .u64 (a7 : Int)] 82)
  have hP2 := (hbB.block _ (lt_of_block hn1)).trans hn1
  generalize hWb : Wa.alloc (.cells #[.int .i64 j, .int .i64 (a1 : Int), .int .i64 (a2 : Int), .int .i64 (a3 : Int), .int .i64 (a4 : Int), .int .i64 (a5 : Int), .int .i64 (a6 : Int), .int .u64 (a7 : Int)] 82) = Wb at *
  have hs3 := World.size_alloc Wb (.cells #[.int .i64 (a1 : Int), .int .i64 (a2 : Int), .int .i64 (a3 : Int), .int .i64 (a4 : Int), .int .i64 (a5 : Int), .int .i64 (a6 : Int)] 3)
  have hn3 := heap_alloc_new Wb (.cells #[.int .i64 (a1 : Int), .int .i64 (a2 : Int), .int .i64 (a3 : Int), .int .i64 (a4 : Int), .int .i64 (a5 : Int), .int .i64 (a6 : Int)] 3)
  have hbC := below_alloc Wb (.cells #[.int .i64 (a1 : Int), .int .i64 (a2 : Int), .int .i64 (a3 : Int), .int .i64 (a4 : Int), .int .i64 (a5 : Int), .int .i64 (a6 : Int)] 3)
  have hW3 := hW2.below hbC
  have HB3 := hide (hB2.alloc (by omega) (.cells #[.int .i64 (a1 : Int), .int .i64 (a2 : Int), .int .i64 (a3 : Int), .int .i64 (a4 : Int), .int .i64 (a5 : Int), .int .i64 (a6 : Int)] 3))
  have HP3 := hide ((hbC.block _ (lt_of_block hP2)).trans hP2)
  have HR3 := hide ((hbC.block _ (lt_of_block hn2)).trans hn2)
  have HN3 := hide (wnums_any (xs := [a1, a2, a3, a4, a5, a6]) hW3 hn3 (by intro x hx; simp at hx; omega) (by show 6 ≤ 8; decide) (by omega))
  have he60 := encs_len [a1, a2, a3, a4, a5, a6] (by intro x hx; simp at hx; omega)
  have HBi := hide (pbits_any a7 h7)
  have HTx := hide (ptext_any pr (by omega))
  have hszPr := Pk.enc_ten (n := pr.size) (by omega)
  have heL := encs_len [lg.length] (by intro x hx; simp at hx; omega)
  have hlen2 : (([a1, a2, a3, a4, a5, a6] : List Nat)).length = 6 := rfl
  rw [hs2, hs1] at HN3
  rw [hs1] at hs2
  clear hx h h32 hB hW1 hW2 hW3 hB1 hB2 hP2 hn1 hn2 hn3 hbA hbB hbC
  subst hWb
  subst hWa
  simp only [hlen2] at HN3
  go_enter Tryz.func62, Tryz.ntmps62
  simp only [plC]
  go_wp2_with fail
  refine HN3.out.mono ?_
  rintro e w4 ⟨rfl, h4, hb4, hk4⟩
  have hP4 := hk4 _ _ _ HP3.out (by decide) (by decide)
  have hR4 := hk4 _ _ _ HR3.out (by decide) (by decide)
  rw [hs1] at hR4
  have HP4 := hide hP4
  have r7 : w4.cell? ⟨w.heap.size + 1, 7, none⟩ = some (.int .u64 (a7 : Int)) := by simp [World.cell?, hR4]
  have H4 := hide h4
  have HB4 := hide (HB3.out.trans hb4)
  have hl4 := lt_of_block hP4
  have hl4' := lt_of_block hR4
  clear h4 hb4 hk4 hP4 hR4 HN3 HP3 HR3 HB3 hs2 hs3
  clear hs1
  go_wp2_with fail
  refine (HBi.out _).mono ?_
  rintro e w5 ⟨rfl, hb5⟩
  have hS5 : (⟨(Pk.big8 a7).toArray⟩ : ByteArray).size = 8 := rfl
  have HL5 := hide (wlay_any (H4.out.below hb5) ⟨(Pk.big8 a7).toArray⟩ (by rw [List.length_append, hS5]; omega))
  have HP5 := hide ((hb5.block _ hl4).trans HP4.out)
  have HB5 := hide (HB4.out.trans (hb5.mono H4.out.szG))
  clear hb5 H4 HB4 HP4 HBi r7 hS5
  go_wp2_with fail
  refine HL5.out.mono ?_
  rintro e w6 ⟨rfl, h6, hb6, hk6⟩
  have hP6 := hk6 _ _ _ HP5.out (by decide) (by decide)
  have p8 : w6.cell? ⟨w.heap.size, 8, none⟩ = some (.string pr) := by simp [World.cell?, hP6]
  have H6 := hide h6
  have HP6 := hide hP6
  have HB6 := hide (HB5.out.trans hb6)
  have hl6 := lt_of_block hP6
  clear h6 hb6 hk6 hP6 HL5 HP5 HB5
  go_wp2_with fail
  refine (HTx.out _).mono ?_
  rintro e w7 ⟨rfl, hb7⟩
  have hz : ((⟨(Pk.enc pr.size).toArray⟩ : ByteArray) ++ pr).size ≤ 1100 := by
    rw [ByteArray.size_append]; simp only [ByteArray.size, List.size_toArray] at hszPr hp ⊢; omega
  have hb8l : (Pk.big8 a7).length = 8 := rfl
  have HL7 := hide (wlay_any (H6.out.below hb7) ((⟨(Pk.enc pr.size).toArray⟩ : ByteArray) ++ pr) (by rw [List.length_append, List.length_append]; show acc.length + (encs [a1, a2, a3, a4, a5, a6]).length + (Pk.big8 a7).length + _ ≤ _; omega))
  have HP7 := hide ((hb7.block _ hl6).trans HP6.out)
  have HB7 := hide (HB6.out.trans (hb7.mono H6.out.szG))
  clear hb7 H6 HB6 HP6 HTx p8
  go_wp2_with fail
  refine HL7.out.mono ?_
  rintro e w8 ⟨rfl, h8, hb8, hk8⟩
  have hP8 := hk8 _ _ _ HP7.out (by decide) (by decide)
  have p9 : w8.cell? ⟨w.heap.size, 9, none⟩ = some (.slice p lg.length cap) := by simp [World.cell?, hP8]
  obtain ⟨A8, hA8⟩ : ∃ A8, acc ++ encs [a1, a2, a3, a4, a5, a6] ++ (⟨(Pk.big8 a7).toArray⟩ : ByteArray).data.toList ++ ((⟨(Pk.enc pr.size).toArray⟩ : ByteArray) ++ pr).data.toList = A8 := ⟨_, rfl⟩
  rw [hA8] at h8
  have hA8l : A8.length ≤ 90002000 := by
    rw [← hA8, List.length_append, List.length_append, List.length_append]
    have e1 : ((⟨(Pk.enc pr.size).toArray⟩ : ByteArray) ++ pr).data.toList.length = ((⟨(Pk.enc pr.size).toArray⟩ : ByteArray) ++ pr).size := rfl
    have e2 : (⟨(Pk.big8 a7).toArray⟩ : ByteArray).data.toList.length = 8 := rfl
    have e3 : ([a1, a2, a3, a4, a5, a6] : List Nat).length = 6 := rfl
    omega
  have HA8 : Hid (acc ++ jb ⟨j, a1, a2, a3, a4, a5, a6, a7⟩ ⟨pr, lg⟩ = A8 ++ encs [lg.length] ++ Rc.layT lg) := hide (by rw [HJB.out, ← hA8, text_data]; simp only [List.append_assoc])
  have hba := below_alloc w8 (.cells #[.int .i64 (lg.length : Int)] 3)
  have HN8 := hide (wnums_any (xs := [lg.length]) (h8.below hba) (heap_alloc_new w8 _) (by intro x hx; simp at hx; omega) (by show 1 ≤ 8; decide) (by omega))
  have h11 : ([lg.length] : List Nat).length = 1 := rfl
  simp only [h11] at HN8
  have HP9 := hide ((hba.block _ (lt_of_block hP8)).trans hP8)
  have HB9 := hide (((HB7.out.trans hb8).alloc h8.szG (.cells #[.int .i64 (lg.length : Int)] 3)))
  have hl8 := lt_of_block hP8
  clear h8 hb8 hk8 hP8 HL7 HP7 HB7 hba hA8 HJB hz hszPr hb8l he60 h11 hlen2
  go_wp2_with fail
  refine HN8.out.mono ?_
  rintro e w10 ⟨rfl, h10, hb10, hk10⟩
  have hP10 := hk10 _ _ _ HP9.out (by decide) (by decide)
  have p10 : w10.cell? ⟨w.heap.size, 9, none⟩ = some (.slice p lg.length cap) := by simp [World.cell?, hP10]
  have H10 := hide h10
  have HB10 := hide (HB9.out.trans hb10)
  have hl10 := lt_of_block hP10
  clear h10 hb10 hk10 hP10 HN8 HP9 HB9 p9
  go_wp2_with fail
  go_loopw [47] (fun u wr => ∃ k : Nat, u = .int .i64 (k : Int) ∧ k ≤ lg.length ∧ Hid (Wo n0 G (A8 ++ encs [lg.length] ++ Rc.layT (lg.take k)) wr) ∧ Hid (Below n0 w wr)) (fun u _ => lg.length - (intOf u).toNat)
  case atStart => exact ⟨0, rfl, Nat.zero_le _, hide (by have := H10.out; simpa [Rc.layT] using this), HB10⟩
  case round =>
    clear H10 HB10 p10
    obtain ⟨k, rfl, hk, HK, HB⟩ := hrel
    by_cases hkl : k < lg.length
    · obtain ⟨bb, off, rfl, hlt, hcc⟩ := HX.out (by omega)
      have hb0w := HBw.out.trans HB.out
      have hcx : wr.cell? ⟨bb, off + k, none⟩ = some (.string lg[k]!) := (hb0w.cell (p := ⟨bb, off + k, none⟩) (Nat.lt_of_lt_of_le hlt hb0)).trans (hcc k hkl)
      have hbl : bb < wr.heap.size := Nat.lt_of_lt_of_le hlt hb0w.size
      have HS := hide (layT_step (l := lg) (k := k) hkl)
      have hs32 := H32.out k hkl
      have htl := HTL.out k
      generalize lg[k]! = tt at *
      have hki : (k : Int) < (lg.length : Int) := by omega
      have HT := hide (ptext_any tt (by omega))
      clear hb0w hcc
      go_wp2_with fail
      refine (HT.out _).mono ?_
      rintro e w2 ⟨rfl, hb2⟩
      have he10 := Pk.enc_ten (n := tt.size) (by omega)
      have hz : ((⟨(Pk.enc tt.size).toArray⟩ : ByteArray) ++ tt).size ≤ 100 := by
        rw [ByteArray.size_append]; simp only [ByteArray.size, List.size_toArray] at he10 hs32 ⊢; omega
      have h11 : ([lg.length] : List Nat).length = 1 := rfl
      have HL := hide (wlay_any (HK.out.below hb2) ((⟨(Pk.enc tt.size).toArray⟩ : ByteArray) ++ tt) (by rw [List.length_append, List.length_append]; omega))
      have HB2 := hide (HB.out.trans (hb2.mono HK.out.szG))
      clear HK HB hb2 hz HT he10 h11
      go_wp2_with fail
      refine HL.out.mono ?_
      rintro e w3 ⟨rfl, h3, hb3, hk3⟩
      have H3 := hide h3
      have HB3 := hide (HB2.out.trans hb3)
      clear h3 hb3 hk3 HL HB2
      go_wp2_with fail
      go_roundw
      case rel => exact ⟨k + 1, by go_num, by omega, hide (by have := H3.out; rw [text_data] at this; rw [HS.out, ← List.append_assoc]; exact this), HB3⟩
      case measure => simp only [intOf]; omega
    · obtain rfl : k = lg.length := by omega
      have hki : ¬ ((lg.length : Int) < (lg.length : Int)) := by omega
      have HF : Hid (Wo n0 G (acc ++ jb ⟨j, a1, a2, a3, a4, a5, a6, a7⟩ ⟨pr, lg⟩) wr) := hide (by have := HK.out; rw [List.take_length] at this; rw [HA8.out]; exact this)
      clear HK HA8
      go_wp2_with fail
      go_end0
      exact ⟨rfl, HF.out, HB.out⟩
end Go.Proofs.YtepondcflkledaaGreat.S
end

section
namespace Go.Proofs.YtepondcflkledaaGreat.S
set_option maxRecDepth 20000
open Go.RowKit
open Rc (Ch)
open Q (Rr rr0 Qm Ft Mv)

def jbs (J : List Jb) : List UInt8 := J.flatMap fun j => jb j.r j.p
theorem jbs_step {J : List Jb} {k : Nat} (h : k < J.length) : jbs (J.take (k + 1)) = jbs (J.take k) ++ jb (J[k]).r (J[k]).p := by
  rw [← List.take_append_getElem h]; simp only [jbs, List.flatMap_append, List.flatMap_cons, List.flatMap_nil, List.append_nil]
/-- the bytes of a state's jobs, of a state -/
def sbs (s : Sx) (k : Nat) : List UInt8 := (List.range k).flatMap fun i => jb (s.L.getD i rr0) (s.pa i)
def bys (s : Sx) : List UInt8 := encs [s.res.toNat, s.L.length] ++ sbs s s.L.length
theorem jbs_sbs {s : Sx} {J : List Jb} {n : Nat} (hn : J.length = n) (h : Jv s J n) : ∀ k, k ≤ n → jbs (J.take k) = sbs s k
  | 0, _ => rfl
  | k + 1, hk => by
    have hkl : k < J.length := by omega
    obtain ⟨t, ht⟩ := h k (by omega)
    rw [List.getElem?_eq_getElem hkl, Option.some.injEq] at ht
    rw [jbs_step hkl, jbs_sbs hn h k (by omega), ht]
    simp only [sbs, List.range_succ, List.flatMap_append, List.flatMap_cons, List.flatMap_nil, List.append_nil]
/-- a row whose numbers can be laid -/
structure Rk (r : Rr) : Prop where
  st : 0 ≤ r.st ∧ r.st < 9223372036854775808
  att : 0 ≤ r.att ∧ r.att < 9223372036854775808
  bdg : 0 ≤ r.bdg ∧ r.bdg < 9223372036854775808
  node : 0 ≤ r.node ∧ r.node < 9223372036854775808
  life : 0 ≤ r.life ∧ r.life < 9223372036854775808
  code : 0 ≤ r.code ∧ r.code < 9223372036854775808
  bits : 0 ≤ r.bits ∧ r.bits < 18446744073709551616
theorem Rk.cast {r : Rr} (h : Rk r) : ∃ a1 a2 a3 a4 a5 a6 a7 : Nat, r = ⟨r.job, a1, a2, a3, a4, a5, a6, a7⟩ ∧ (a1 < 9223372036854775808 ∧ a2 < 9223372036854775808 ∧ a3 < 9223372036854775808 ∧ a4 < 9223372036854775808 ∧ a5 < 9223372036854775808 ∧ a6 < 9223372036854775808) ∧ a7 < 18446744073709551616 := by
  obtain ⟨job, st, att, bdg, node, life, code, bits⟩ := r
  obtain ⟨h1, h2, h3, h4, h5, h6, h7⟩ := h
  simp only at *
  obtain ⟨b1, rfl⟩ := Int.eq_ofNat_of_zero_le h1.1
  obtain ⟨b2, rfl⟩ := Int.eq_ofNat_of_zero_le h2.1
  obtain ⟨b3, rfl⟩ := Int.eq_ofNat_of_zero_le h3.1
  obtain ⟨b4, rfl⟩ := Int.eq_ofNat_of_zero_le h4.1
  obtain ⟨b5, rfl⟩ := Int.eq_ofNat_of_zero_le h5.1
  obtain ⟨b6, rfl⟩ := Int.eq_ofNat_of_zero_le h6.1
  obtain ⟨b7, rfl⟩ := Int.eq_ofNat_of_zero_le h7.1
  exact ⟨b1, b2, b3, b4, b5, b6, b7, rfl, by omega, by omega⟩
structure Jk (j : Jb) : Prop where
  r : Rk j.r
  pr : j.p.pr.size ≤ 1024
  lg : j.p.lg.length ≤ 32
  tx : ∀ x ∈ j.p.lg, x.size ≤ 32
theorem jb_len {j : Jb} (h : Jk j) : (jb j.r j.p).length ≤ 4000 := by
  have h1 := encs_len [j.r.st.toNat, j.r.att.toNat, j.r.bdg.toNat, j.r.node.toNat, j.r.life.toNat, j.r.code.toNat] (by
    intro x hx
    have := h.r.st; have := h.r.att; have := h.r.bdg; have := h.r.node; have := h.r.life; have := h.r.code
    simp at hx; omega)
  have h2 := encs_len [j.p.lg.length] (by intro x hx; have := h.lg; simp at hx; omega)
  have h3 := layT_len j.p.lg h.tx
  have h4 := Pk.enc_ten (n := j.p.pr.size) (by have := h.pr; omega)
  have h5 : (Pk.big8 j.r.bits.toNat).length = 8 := rfl
  have h6 : j.p.pr.data.toList.length = j.p.pr.size := rfl
  have h7 := h.pr
  have h8 := h.lg
  simp only [List.length_cons, List.length_nil] at h1 h2
  unfold jb
  simp only [List.length_append]
  omega
theorem jbs_len {J : List Jb} (h : ∀ j ∈ J, Jk j) : (jbs J).length ≤ J.length * 4000 := by
  induction J with
  | nil => simp [jbs]
  | cons j J ih =>
    have h1 := jb_len (h j (by simp))
    have h2 := ih fun q hq => h q (by simp [hq])
    simp only [jbs, List.flatMap_cons, List.length_append, List.length_cons] at h2 ⊢
    omega
set_option maxHeartbeats 2000000 in
set_option maxRecDepth 20000 in
theorem vlay_any {A : Nat} {w : World} {vj : Value} {J : List Jb} {rn : Nat} (hJ : Jr A w vj J) (hl : J.length ≤ 8) (hk : ∀ j ∈ J, Jk j) (hr : rn < 9223372036854775808) :
    Calls Tryz.prog 33 #[.agg #[.int .i64 (rn : Int), vj]] w fun e w' => e = .returned (.string ⟨(encs [rn, J.length] ++ jbs J).toArray⟩) ∧ Below w.heap.size w w' := by
  obtain ⟨pj, cj, hvj⟩ := own_slice hJ.row
  have HJ := hide hJ
  have HKj := hide hk
  have HLn : Hid (∀ k, (jbs (J.take k)).length ≤ 32000) := hide fun k => by
    have h1 := jbs_len (J := J.take k) fun j hj => hk j (List.mem_of_mem_take hj)
    have h2 : (J.take k).length ≤ 8 := by rw [List.length_take]; omega
    omega
  have hen := encs_len [rn, J.length] (by intro x hx; simp at hx; omega)
  simp only [List.length_cons, List.length_nil] at hen
  subst hvj
  have hs1 := World.size_alloc w (.cells #[.int .i64 (rn : Int), .slice pj J.length cj] 45)
  have hn1 := heap_alloc_new w (.cells #[.int .i64 (rn : Int), .slice pj J.length cj] 45)
  have hB1 : Below w.heap.size w (w.alloc (.cells #[.int .i64 (rn : Int), .slice pj J.length cj] 45)) := below_alloc w _
  have hs2 := World.size_alloc (w.alloc (.cells #[.int .i64 (rn : Int), .slice pj J.length cj] 45)) (.cells #[.slice none 0 0] 131)
  have hn2 := heap_alloc_new (w.alloc (.cells #[.int .i64 (rn : Int), .slice pj J.length cj] 45)) (.cells #[.slice none 0 0] 131)
  have hb2 := below_alloc (w.alloc (.cells #[.int .i64 (rn : Int), .slice pj J.length cj] 45)) (.cells #[.slice none 0 0] 131)
  have hW2 : Wo w.heap.size (w.heap.size + 1) [] ((w.alloc (.cells #[.int .i64 (rn : Int), .slice pj J.length cj] 45)).alloc (.cells #[.slice none 0 0] 131)) := ⟨⟨.slice none 0 0, by rw [← hs1]; exact hn2, World.ownsRow_nil _ _ _ _⟩, Nat.le_succ _⟩
  have hV2 := (hb2.block _ (lt_of_block hn1)).trans hn1
  have hB2 := hB1.alloc (by omega) (.cells #[.slice none 0 0] 131)
  have hb3 := below_alloc ((w.alloc (.cells #[.int .i64 (rn : Int), .slice pj J.length cj] 45)).alloc (.cells #[.slice none 0 0] 131)) (.cells #[.int .i64 (rn : Int), .int .i64 (J.length : Int)] 3)
  have HV3 := hide ((hb3.block _ (lt_of_block hV2)).trans hV2)
  have HB3 := hide (hB2.alloc (by omega) (.cells #[.int .i64 (rn : Int), .int .i64 (J.length : Int)] 3))
  have HN3 := hide (wnums_any (xs := [rn, J.length]) (hW2.below hb3) (heap_alloc_new _ _) (by intro x hx; simp at hx; omega) (by show 2 ≤ 8; decide) (by show 0 ≤ _; omega))
  rw [hs2, hs1] at HN3
  have h22 : ([rn, J.length] : List Nat).length = 2 := rfl
  simp only [h22, List.nil_append] at HN3
  clear hk hJ hn1 hB1 hn2 hb2 hW2 hV2 hB2 hb3 hs1 hs2 h22
  go_enter Tryz.func33, Tryz.ntmps33
  go_wp2_with fail
  refine HN3.out.mono ?_
  rintro e w4 ⟨rfl, h4, hb4, hk4⟩
  have hV4 := hk4 _ _ _ HV3.out (by decide) (by decide)
  have v1 : w4.cell? ⟨w.heap.size, 1, none⟩ = some (.slice pj J.length cj) := by simp [World.cell?, hV4]
  have H4 := hide h4
  have HB4 := hide (HB3.out.trans hb4)
  have hl4 := lt_of_block hV4
  clear h4 hb4 hk4 hV4 HN3 HV3 HB3
  go_wp2_with fail
  go_loopw [16] (fun u wr => ∃ k : Nat, u = .int .i64 (k : Int) ∧ k ≤ J.length ∧ Hid (Wo w.heap.size (w.heap.size + 1) (encs [rn, J.length] ++ jbs (J.take k)) wr) ∧ Hid (Below w.heap.size w wr)) (fun u _ => J.length - (intOf u).toNat)
  case atStart => exact ⟨0, rfl, Nat.zero_le _, hide (by have := H4.out; simpa [jbs] using this), HB4⟩
  case round =>
    clear H4 HB4 v1
    obtain ⟨k, rfl, hk, HK, HB⟩ := hrel
    by_cases hkl : k < J.length
    · have hrow := HJ.out.row
      rcases hrow.2 with ⟨h1, h2⟩ | ⟨g, cap', cur, h1, _, hg, _⟩
      · omega
      simp only [Value.slice.injEq] at h1
      obtain ⟨rfl, -, rfl⟩ := h1
      have hgl := lt_of_block hg
      have hcell : ∀ i u, i < 10 → (J[k]).cs[i]? = some u → wr.cell? ⟨g, k * 10 + i, none⟩ = some u := fun i u hi hu => by
        have h3 := hrow.cells (g := g) rfl (k * 10 + i) u (by rw [jcs_get J k i hkl hi]; exact hu)
        rw [Addr.add_lit, Nat.zero_add] at h3
        exact (HB.out.cell (p := ⟨g, k * 10 + i, none⟩) hgl).trans h3
      have hJk := HKj.out J[k] (List.getElem_mem hkl)
      have hlgk := HJ.out.lg J[k] (List.getElem_mem hkl)
      have HS := hide (jbs_step hkl)
      have hln := HLn.out k
      have hglr : g < wr.heap.size := Nat.lt_of_lt_of_le hgl HB.out.size
      generalize J[k] = q at *
      obtain ⟨r, ⟨pr, lg⟩, t⟩ := q
      obtain ⟨a1, a2, a3, a4, a5, a6, a7, hre, hb6, hb7⟩ := hJk.r.cast
      have hpr := hJk.pr
      have hlgl := hJk.lg
      have htx := hJk.tx
      simp only at hre hpr hlgl htx hlgk
      obtain ⟨jj, hjj⟩ : ∃ jj, r.job = jj := ⟨_, rfl⟩
      rw [hjj] at hre
      clear hjj hJk
      subst hre
      have hTx : Tx w t lg := tx_own hlgk
      obtain ⟨pt, capt, rfl⟩ := own_slice hlgk
      have q0 : wr.cell? ⟨g, k * 10, none⟩ = some (.int .i64 jj) := hcell 0 _ (by decide) rfl
      have q1 : wr.cell? ⟨g, k * 10 + 1, none⟩ = some (.int .i64 (a1 : Int)) := hcell 1 _ (by decide) rfl
      have q2 : wr.cell? ⟨g, k * 10 + 2, none⟩ = some (.int .i64 (a2 : Int)) := hcell 2 _ (by decide) rfl
      have q3 : wr.cell? ⟨g, k * 10 + 3, none⟩ = some (.int .i64 (a3 : Int)) := hcell 3 _ (by decide) rfl
      have q4 : wr.cell? ⟨g, k * 10 + 4, none⟩ = some (.int .i64 (a4 : Int)) := hcell 4 _ (by decide) rfl
      have q5 : wr.cell? ⟨g, k * 10 + 5, none⟩ = some (.int .i64 (a5 : Int)) := hcell 5 _ (by decide) rfl
      have q6 : wr.cell? ⟨g, k * 10 + 6, none⟩ = some (.int .i64 (a6 : Int)) := hcell 6 _ (by decide) rfl
      have q7 : wr.cell? ⟨g, k * 10 + 7, none⟩ = some (.int .u64 (a7 : Int)) := hcell 7 _ (by decide) rfl
      have q8 : wr.cell? ⟨g, k * 10 + 8, none⟩ = some (.string pr) := hcell 8 _ (by decide) rfl
      have q9 : wr.cell? ⟨g, k * 10 + 9, none⟩ = some (.slice pt lg.length capt) := hcell 9 _ (by decide) rfl
      have hki : (k : Int) < (J.length : Int) := by omega
      have HB2 := hide (HB.out.alloc HB.out.size (.cells (plC ⟨jj, a1, a2, a3, a4, a5, a6, a7⟩ pr (.slice pt lg.length capt)) 84))
      have HL := hide (wjob_any (w0 := w) (j := jj) (HK.out.below (below_alloc wr (.cells (plC ⟨jj, a1, a2, a3, a4, a5, a6, a7⟩ pr (.slice pt lg.length capt)) 84))) HB2.out (Nat.le_refl _) hTx hb6 hb7 hpr hlgl htx (by rw [List.length_append]; omega))
      simp only [plC] at HL HB2
      clear HK HB hcell hrow hg hTx hlgk htx
      go_wp2_with fail
      refine HL.out.mono ?_
      rintro e w3 ⟨rfl, h3, hb3⟩
      have H3 := hide h3
      have HB3 := hide (HB2.out.trans hb3)
      clear h3 hb3 HL HB2
      go_wp2_with fail
      go_roundw
      case rel => exact ⟨k + 1, by go_num, by omega, hide (by have := H3.out; rw [HS.out, ← List.append_assoc]; exact this), HB3⟩
      case measure => simp only [intOf]; omega
    · obtain rfl : k = J.length := by omega
      have hki : ¬ ((J.length : Int) < (J.length : Int)) := by omega
      obtain ⟨v, hv, ho⟩ := HK.out.wt
      rw [List.take_length] at ho
      have cg : wr.cell? ⟨w.heap.size + 1, 0, none⟩ = some v := by simp [World.cell?, hv]
      have hcv := own_str ho
      obtain ⟨p', cap', rfl⟩ := own_slice ho
      have hvl := lt_of_block hv
      obtain ⟨BB, hBB⟩ : ∃ BB, encs [rn, J.length] ++ jbs J = BB := ⟨_, rfl⟩
      rw [hBB] at hcv cg hv
      have HBB := hide hBB
      generalize (encs [rn, J.length] ++ jbs J).length = nB at *
      clear HK hv ho hBB
      go_wp2
      go_ret
      exact ⟨by rw [HBB.out]; rfl, HB.out⟩
end Go.Proofs.YtepondcflkledaaGreat.S
end

section
namespace Go.Proofs.YtepondcflkledaaGreat.S
set_option maxRecDepth 20000
open Go.RowKit
open Rc (Ch)
open Q (Rr rr0 Qm Ft Mv)

/-- what a row's numbers are -/
structure Rz (r : Rr) : Prop where
  st : 1 ≤ r.st ∧ r.st ≤ 4
  att : 0 ≤ r.att ∧ r.att ≤ 8
  bdg : 0 ≤ r.bdg ∧ r.bdg ≤ 1099511627776
  node : 0 ≤ r.node ∧ r.node < 10
  life : 0 ≤ r.life ∧ r.life ≤ 1099511627776
  code : 0 ≤ r.code ∧ r.code ≤ 7
  bits : 0 ≤ r.bits ∧ r.bits < 18446744073709551616
theorem Wf.rz {m : Int} {s : Sx} (h : Wf m s) (i : Nat) (hi : i < s.L.length) : Rz s.L[i] := by
  have h1 := h.ok.st i hi
  have h2 := Q.fm_same (h.ok.form i hi)
  have h3 := h.ok.att i hi
  have h4 := h.ok.bdg i hi
  have h5 := h.bt i hi
  have hm := h.ok.m8
  generalize s.L[i] = r at *
  rcases h1 with ⟨e, a, b⟩ | ⟨e, a, b, c⟩ | ⟨e, a, b, c⟩ | ⟨e, a⟩
  · have h6 := h2.1 (by omega); have h7 := h2.2 (by omega)
    exact ⟨by omega, by omega, h4, by omega, by omega, by omega, h5⟩
  · have h7 := h2.2 (by omega)
    obtain ⟨c1, c2, c3, c4⟩ := c
    exact ⟨by omega, by omega, h4, by omega, by omega, by omega, h5⟩
  · have h6 := h2.1 (by omega)
    have hc : 0 ≤ r.code ∧ r.code ≤ 7 := by rcases c with c | ⟨c1, c2, _⟩ <;> omega
    exact ⟨by omega, by omega, h4, by omega, by omega, hc, h5⟩
  · have h6 := h2.1 (by omega); have h7 := h2.2 (by omega)
    exact ⟨by omega, by omega, h4, by omega, by omega, by omega, h5⟩
theorem Rz.k {r : Rr} (h : Rz r) : Rk r := by
  obtain ⟨h1, h2, h3, h4, h5, h6, h7⟩ := h
  exact ⟨by omega, by omega, by omega, by omega, by omega, by omega, h7⟩
theorem jv_jk {m : Int} {s : Sx} (h : Wf m s) {J : List Jb} (hn : J.length = s.L.length) (hJ : Jv s J s.L.length) : ∀ j ∈ J, Jk j := by
  intro j hj
  obtain ⟨i, hi, rfl⟩ := List.getElem_of_mem hj
  obtain ⟨t, ht⟩ := hJ i (by omega)
  rw [List.getElem?_eq_getElem hi, Option.some.injEq] at ht
  rw [ht]
  have hil : i < s.L.length := by omega
  have e : s.L.getD i rr0 = s.L[i] := by rw [List.getD_eq_getElem?_getD, List.getElem?_eq_getElem hil]; rfl
  have hp := h.pp i
  exact ⟨by show Rk (s.L.getD i rr0); rw [e]; exact (h.rz i hil).k, hp.1, hp.2.1, hp.2.2⟩
theorem encs_one (x : Nat) : encs [x] = Pk.enc x := by simp [encs]
theorem jb_small {r : Rr} {p : Pp} (h : Rz r) (hp : p.pr.size ≤ 1024 ∧ p.lg.length ≤ 32 ∧ ∀ t ∈ p.lg, t.size ≤ 32) : (jb r p).length ≤ 2107 := by
  have e1 := Pk.enc_len 0 r.st.toNat (by have := h.st; omega)
  have e2 := Pk.enc_len 0 r.att.toNat (by have := h.att; omega)
  have e3 := Pk.enc_len 5 r.bdg.toNat (by have := h.bdg; show _ < 4398046511104; omega)
  have e4 := Pk.enc_len 0 r.node.toNat (by have := h.node; omega)
  have e5 := Pk.enc_len 5 r.life.toNat (by have := h.life; show _ < 4398046511104; omega)
  have e6 := Pk.enc_len 0 r.code.toNat (by have := h.code; omega)
  have e7 := Pk.enc_len 1 p.pr.size (by have := hp.1; show _ < 16384; omega)
  have e8 := Pk.enc_len 0 p.lg.length (by have := hp.2.1; omega)
  have h5 : (Pk.big8 r.bits.toNat).length = 8 := rfl
  have h6 : p.pr.data.toList.length = p.pr.size := rfl
  have ht : ∀ l : List ByteArray, (∀ t ∈ l, t.size ≤ 32) → (Rc.layT l).length ≤ l.length * 33 := by
    intro l hl
    induction l with
    | nil => simp [Rc.layT]
    | cons t l ih =>
      have h1 := hl t (by simp)
      have h2 := Pk.enc_len 0 t.size (by omega)
      have h3 := ih fun x hx => hl x (by simp [hx])
      have h4 : t.data.toList.length = t.size := rfl
      simp only [Rc.layT, List.flatMap_cons, List.length_append, List.length_cons] at h3 ⊢
      omega
  have h9 := ht p.lg hp.2.2
  have h10 := hp.1
  have h11 := hp.2.1
  unfold jb
  simp only [encs, List.flatMap_cons, List.flatMap_nil, List.length_append, List.length_nil]
  omega
theorem bys_len {m : Int} {s : Sx} (h : Wf m s) : (bys s).length ≤ 17000 := by
  have hs : ∀ k, k ≤ s.L.length → (sbs s k).length ≤ k * 2107 := by
    intro k
    induction k with
    | zero => intro _; simp [sbs]
    | succ k ih =>
      intro hk
      have h1 := ih (by omega)
      have e : s.L.getD k rr0 = s.L[k] := by rw [List.getD_eq_getElem?_getD, List.getElem?_eq_getElem (by omega)]; rfl
      have h2 := jb_small (h.rz k (by omega)) (h.pp k)
      rw [← e] at h2
      simp only [sbs, List.range_succ, List.flatMap_append, List.flatMap_cons, List.flatMap_nil, List.length_append, List.length_nil] at h1 ⊢
      omega
  have h1 := hs _ (Nat.le_refl _)
  have h2 := h.ok.len
  have e1 := Pk.enc_len 5 s.res.toNat (by have := h.r1; show _ < 4398046511104; omega)
  have e2 := Pk.enc_len 0 s.L.length (by omega)
  unfold bys
  simp only [encs, List.flatMap_cons, List.flatMap_nil, List.length_append, List.length_nil]
  omega
set_option maxHeartbeats 1000000 in
theorem bytes_any {N : Nat → Prop} {w : World} {b : Nat} {m : Int} {s : Sx} (h : Sd N w b m s) (hW : Wf m s) :
    Calls Tryz.prog 12 #[.pointer (some ⟨b, 0, none⟩)] w fun e w' => e = .returned (.string ⟨(bys s).toArray⟩) ∧ Below w.heap.size w w' := by
  have HV := hide (view_any h hW)
  have HW := hide hW
  obtain ⟨rn, hrn⟩ := Int.eq_ofNat_of_zero_le hW.r0
  have hr1 := hW.r1
  have HRn := hide hrn
  rw [hrn] at HV
  clear h hW
  go_enter Tryz.func12, Tryz.ntmps12
  go_wp2_with fail
  refine HV.out.mono ?_
  rintro e w1 ⟨vj, J, rfl, hJ, hn, hJv, hb⟩
  have HL := hide (vlay_any (rn := rn) hJ (by rw [hn]; exact HW.out.ok.len) (jv_jk HW.out hn hJv) (by omega))
  have HE : Hid (encs [rn, J.length] ++ jbs J = bys s) := hide (by
    have h1 := jbs_sbs hn hJv s.L.length (Nat.le_refl _)
    rw [← hn, List.take_length] at h1
    unfold bys
    rw [h1, HRn.out, hn]
    rfl)
  have HB := hide hb
  clear hJ hn hJv hb HV hrn
  rw [HE.out] at HL
  go_wp2_with fail
  refine HL.out.mono ?_
  rintro e w2 ⟨rfl, hb2⟩
  have HB2 := hide (HB.out.trans (hb2.mono HB.out.size))
  clear hb2 HL
  go_wp2_with fail
  go_ret
  exact ⟨rfl, HB2.out⟩
end Go.Proofs.YtepondcflkledaaGreat.S
end
