import Derived.Test.YtjabnddjahhgoaaRcG1
import Derived.Test.YtjabnddjahhgoaaRcG3
import Derived.Test.YtjabnddjahhgoaaRcI
import Derived.Deep.DeepCutAuto
namespace Go.Proofs.Ytjabnddjahhgoaa
open Go.RowKit
open Rc (L V Ch)

theorem first_at : ∀ (l : List Ch) (i : Nat), i < l.length → (∀ c ∈ l.take i, Rc.check c = 0) → Rc.check l[i]! ≠ 0 → Rc.first l = Rc.check l[i]! := by
  intro l
  induction l with
  | nil => intro i hi; simp at hi
  | cons c l ih =>
    intro i hi h hc
    unfold Rc.first
    cases i with
    | zero => exact if_pos hc
    | succ i =>
      have h0 := h c (by simp)
      rw [if_neg (by simp [h0])]
      have h3 : i < l.length := by simpa using hi
      have h1 := ih i h3 (fun d hd => h d (by simp [hd]))
      have h2 : (c :: l)[i + 1]! = l[i]! := by rw [getElem!_pos (c :: l) (i + 1) hi, getElem!_pos l i h3]; rfl
      rw [h2] at hc ⊢
      exact h1 hc
theorem all_short (l : List Ch) (h : ∀ c ∈ l, Rc.check c = 0) : (Rc.all l).length ≤ l.length * 1100 := by
  induction l with
  | nil => simp [Rc.all]
  | cons c l ih =>
    have h1 := bytes_short c (h c (by simp))
    have h2 := ih (fun d hd => h d (by simp [hd]))
    simp only [Rc.all, List.flatMap_cons, List.length_append, List.length_cons] at h2 ⊢
    omega
theorem take_ok {l : List Ch} {i : Nat} (hi : i < l.length) (h : ∀ c ∈ l.take i, Rc.check c = 0) (hc : Rc.check l[i]! = 0) : ∀ c ∈ l.take (i + 1), Rc.check c = 0 := by
  intro c hm
  rw [← List.take_append_getElem hi, List.mem_append] at hm
  rcases hm with hm | hm
  · exact h c hm
  · rw [List.mem_singleton] at hm; subst hm; rw [getElem!_pos l i hi] at hc; exact hc
set_option maxHeartbeats 4000000 in
set_option maxRecDepth 8000 in
theorem rencode_any {w : World} {v : Value} {l : List Ch} (h : Rw w v l) : Calls Try.prog 7 #[v] w fun e w' => e = .returned (.tuple #[.string (Rc.enco l).1, .int .i64 ((Rc.enco l).2 : Int)]) ∧ Below w.heap.size w w' := by
  obtain ⟨p, cap, rfl, h2⟩ := h
  by_cases h0 : l.length = 0
  · have HE : Hid (Rc.enco l = (Rc.e0, 82)) := hide (if_pos (.inl h0))
    have hi : (l.length : Int) < 1 := by omega
    clear h0 h2
    go_enter Try.func7, Try.ntmps7
    go_wp2
    go_ret2
    rw [HE.out]
    exact ⟨rfl, Below.refl _ _⟩
  by_cases h16 : 16 < l.length
  · have HE : Hid (Rc.enco l = (Rc.e0, 82)) := hide (if_pos (.inr h16))
    have hi : ¬ (l.length : Int) < 1 := by omega
    have hi2 : (16 : Int) < (l.length : Int) := by omega
    clear h0 h2 h16
    go_enter Try.func7, Try.ntmps7
    go_wp2
    go_ret2
    rw [HE.out]
    exact ⟨rfl, Below.refl _ _⟩
  obtain ⟨b, off, rfl, hlt, hc⟩ := h2 (by omega)
  have HCc := hide hc
  have hn1 : ¬ (l.length : Int) < 1 := by omega
  have hn2 : ¬ (16 : Int) < (l.length : Int) := by omega
  have hneg : ¬ (l.length = 0 ∨ 16 < l.length) := by omega
  have en := Pk.enc_ten (n := l.length) (by omega)
  obtain ⟨RES, hRES⟩ : ∃ R, R = Rc.enco l := ⟨_, rfl⟩
  rw [← hRES]
  have HRES := hide hRES
  have HNeg := hide hneg
  clear h2 hc hRES hneg
  go_enter Try.func7, Try.ntmps7
  go_wp2_with fail
  refine (dnum_any l.length (by omega) _).mono ?_
  rintro e w1 ⟨rfl, hB1⟩
  have HB1 := hide hB1
  clear hB1
  go_wp2_with fail
  go_loopw [4, 5] (fun a s wr => ∃ (i : Nat) (A : List UInt8), i ≤ l.length ∧ a = .string ⟨A.toArray⟩ ∧ s = .int .i64 (i : Int) ∧ Hid (A = Pk.enc l.length ++ Rc.all (l.take i)) ∧ Hid (∀ c ∈ l.take i, Rc.check c = 0) ∧ Hid (Below w.heap.size w wr)) (fun _ s _ => l.length - (intOf s).toNat)
  case atStart => exact ⟨0, _, Nat.zero_le _, rfl, rfl, hide (by simp [Rc.all]), hide (by simp), HB1⟩
  case round =>
    clear HB1
    obtain ⟨i, A, hi, rfl, rfl, HA, HK, HB⟩ := hrel
    have hAl : A.length ≤ 20000 := by
      have h1 := all_short _ HK.out
      have h3 : (l.take i).length ≤ 16 := by rw [List.length_take]; omega
      rw [HA.out, List.length_append]; omega
    by_cases hii : i < l.length
    · have hik : (i : Int) < (l.length : Int) := by omega
      obtain ⟨t, hT, _, hrb, hcell⟩ := HCc.out i hii
      obtain ⟨tp, tc, rfl, _⟩ := id hT
      have KV : Hid (∀ V, Below w.heap.size w V → Tx V (.slice tp (l[i]!).tx.length tc) (l[i]!).tx ∧ V.cell? ⟨b, off + i * 10, none⟩ = some (.int .i64 (l[i]!).k) ∧ V.cell? ⟨b, off + i * 10 + 1, none⟩ = some (.int .i64 (l[i]!).n) ∧ V.cell? ⟨b, off + i * 10 + 2, none⟩ = some (.int .i64 (l[i]!).jo) ∧ V.cell? ⟨b, off + i * 10 + 3, none⟩ = some (.int .i64 (l[i]!).ba) ∧ V.cell? ⟨b, off + i * 10 + 4, none⟩ = some (.int .i64 (l[i]!).sl) ∧ V.cell? ⟨b, off + i * 10 + 5, none⟩ = some (.int .i64 (l[i]!).li) ∧ V.cell? ⟨b, off + i * 10 + 6, none⟩ = some (.int .i64 (l[i]!).rc) ∧ V.cell? ⟨b, off + i * 10 + 7, none⟩ = some (.int .u64 ((l[i]!).rb : Int)) ∧ V.cell? ⟨b, off + i * 10 + 8, none⟩ = some (.string (l[i]!).pr) ∧ V.cell? ⟨b, off + i * 10 + 9, none⟩ = some (.slice tp (l[i]!).tx.length tc)) := hide fun V hV => by
        have g : ∀ k u, (chC l[i]! (.slice tp (l[i]!).tx.length tc))[k]? = some u → V.cell? ⟨b, off + i * 10 + k, none⟩ = some u := fun k u hu => (hV.cell (p := ⟨b, off + i * 10 + k, none⟩) hlt).trans (hcell k u hu)
        exact ⟨hT.below hV (Nat.le_refl _), g 0 _ rfl, g 1 _ rfl, g 2 _ rfl, g 3 _ rfl, g 4 _ rfl, g 5 _ rfl, g 6 _ rfl, g 7 _ rfl, g 8 _ rfl, g 9 _ rfl⟩
      have HF := hide (fun h => first_at l i hii HK.out h)
      have HTk := hide (fun h => take_ok hii HK.out h)
      have HSt := hide (all_step hii)
      generalize l[i]! = c at *
      clear hT hcell
      obtain ⟨hTr, g0, g1, g2, g3, g4, g5, g6, g7, g8, g9⟩ := KV.out _ HB.out
      have HCk := hide (rcheck_any c _ _ hTr)
      clear hTr
      go_wp2_with fail
      refine HCk.out.mono ?_
      rintro e w5 ⟨rfl, hB5⟩
      have HB5 := hide (HB.out.trans (hB5.mono HB.out.size))
      clear hB5 HCk g0 g1 g2 g3 g4 g5 g6 g7 g8 g9
      by_cases hck : Rc.check c = 0
      · obtain ⟨hTr, g0, g1, g2, g3, g4, g5, g6, g7, g8, g9⟩ := KV.out _ HB5.out
        have HPt := hide (rput_any c hck hrb _ _ hTr)
        have hbs := bytes_short c hck
        have HTk2 := hide (HTk.out hck)
        rw [hck]
        rw [show ((0 : Nat) : Int) = 0 from rfl]
        generalize Rc.bytes c = T at *
        have hadd := fun W => addS (a := A) (b := T) (by omega) W
        clear hTr HTk HF hck
        go_wp2_with fail
        refine HPt.out.mono ?_
        rintro e w6 ⟨rfl, hB6⟩
        have HB6 := hide (HB5.out.trans (hB6.mono HB5.out.size))
        clear hB6 HPt g0 g1 g2 g3 g4 g5 g6 g7 g8 g9
        go_wp2_with fail
        go_roundw
        case rel => exact ⟨i + 1, _, by omega, rfl, by go_num, hide (by rw [HSt.out, HA.out, List.append_assoc]), HTk2, HB6⟩
        case measure => simp only [intOf]; omega
      · have hne : ((Rc.check c : Int) == 0) = false := by simp; omega
        have HE : Hid (RES = (Rc.e0, Rc.check c)) := hide (by
          have h1 := HF.out hck
          rw [HRES.out]; unfold Rc.enco; rw [if_neg HNeg.out, if_pos (by rw [h1]; exact hck), h1])
        clear HTk HF hck
        generalize Rc.check c = E at *
        go_wp2
        go_ret2
        rw [HE.out]
        exact ⟨rfl, HB5.out⟩
    · have hik : ¬ (i : Int) < (l.length : Int) := by omega
      have he : l.take i = l := List.take_of_length_le (by omega)
      have HK2 := hide HK.out
      have HA2 := hide HA.out
      rw [he] at HK2 HA2
      have HR0 : Hid (Rc.first l = 0) := hide ((Rc.first_iff l).2 HK2.out)
      have HRow : Hid (A = Rc.row l) := hide HA2.out
      clear HK HA he
      by_cases h20 : 2048 < A.length
      · have hA20 : (2048 : Int) < (A.length : Int) := by omega
        have HE : Hid (RES = (Rc.e0, 82)) := hide (by rw [HRES.out]; unfold Rc.enco; rw [if_neg HNeg.out, if_neg (by rw [HR0.out]; simp), if_pos (by rw [← HRow.out]; exact h20)])
        go_wp2
        go_ret2
        rw [HE.out]
        exact ⟨rfl, HB.out⟩
      · have hA20 : ¬ (2048 : Int) < (A.length : Int) := by omega
        have HE : Hid (RES = (⟨A.toArray⟩, 0)) := hide (by rw [HRES.out]; unfold Rc.enco; rw [if_neg HNeg.out, if_neg (by rw [HR0.out]; simp), if_neg (by rw [← HRow.out]; exact h20), HRow.out])
        go_wp2
        go_ret2
        rw [HE.out]
        exact ⟨rfl, HB.out⟩
end Go.Proofs.Ytjabnddjahhgoaa

namespace Go.Proofs.Ytjabnddjahhgoaa
open Go.RowKit
open Rc (L V Ch)

abbrev bh1 : ByteArray := ⟨#[98, 101, 104, 105, 110, 100]⟩
abbrev bh2 : ByteArray := ⟨#[97, 110, 100, 32, 98, 101, 104, 105, 110, 100]⟩
theorem cutS (W : World) (rm n N cap : Nat) (h : n ≤ cap) : (Instr.slice 27 (.slice (some ⟨rm, 0, none⟩) N cap) none (some (.int .i64 (n : Int))) none).run Try.prog W = .ok (.slice (some ⟨rm, 0, none⟩) n cap) W := by
  have hi : (n : Int) ≤ (cap : Int) := by omega
  rw [run_slice_h (P := Try.prog) W 27 (some ⟨rm, 0, none⟩) N cap (by simp [Program.elem, Try.underlying27]) .i64 (n : Int) (by omega) hi]
  have e : Try.prog.elem 27 = 9 := by simp [Program.elem, Try.underlying27]
  rw [e]
  go_simp
theorem cutSAt (W : World) (rm n N cap : Nat) (h : n ≤ cap) : (Instr.sliceAt 27 (.slice (some ⟨rm, 0, none⟩) N cap) none (some (.int .i64 (n : Int))) none).run Try.prog W = .ok (.slice (some ⟨rm, 0, none⟩) n cap) W := by
  rw [run_sliceAt_slice (P := Try.prog) W 27 _ _ _ _ (by simp [Program.elem, Try.underlying27]), cutS W rm n N cap h]
/-- a cell that is written as it was -/
theorem setCell_same {W : World} {g o : Nat} {cur : Array Value} {t : TypeId} {v : Value} (h : W.heap[g]? = some (.cells cur t (0, 0))) (hv : cur[o]? = some v) : W.setCell ⟨g, o, none⟩ v = W := by
  have hh : (W.setCell ⟨g, o, none⟩ v).heap = W.heap := Array.ext_getElem? fun i => by
    by_cases hi : i = g
    · subst hi
      rw [heap_set_selfC h, h]
      have hs : cur.setIfInBounds o v = cur := Array.ext_getElem? fun j => by
        rw [Array.getElem?_setIfInBounds]
        by_cases hj : o = j
        · subst hj
          have := (Array.getElem?_eq_some_iff.1 hv).1
          rw [if_pos rfl, if_pos this, hv]
        · rw [if_neg hj]
      rw [hs]
    · exact Below.heap_setCell W ⟨g, o, none⟩ v i hi
  have : W.setCell ⟨g, o, none⟩ v = { W with heap := (W.setCell ⟨g, o, none⟩ v).heap } := rfl
  rw [this, hh]
abbrev two : List (Ch × Value) := [(Rc.zC (-1), .slice none 0 0), (Rc.zC (-2), .slice none 0 0)]
abbrev twoC : Array Value := #[.int .i64 (-1), .int .i64 0, .int .i64 0, .int .i64 0, .int .i64 0, .int .i64 0, .int .i64 0, .int .u64 0, .string ByteArray.empty, .slice none 0 0, .int .i64 (-2), .int .i64 0, .int .i64 0, .int .i64 0, .int .i64 0, .int .i64 0, .int .i64 0, .int .u64 0, .string ByteArray.empty, .slice none 0 0]
theorem flat_two (vals : List (Ch × Value)) : flatV (vals ++ two) = flatV vals ++ twoC.toList := by
  have e : flatV two = twoC.toList := by simp [flatV, two, chC, Rc.zC, Rc.e0]; rfl
  rw [← e]
  simp [flatV]
theorem two_one : ∀ u ∈ twoC.toList, u.oneCell' = true := by
  intro u hu
  simp only [List.mem_cons, List.not_mem_nil, or_false] at hu
  rcases hu with rfl | rfl | rfl | rfl | rfl | rfl | rfl | rfl | rfl | rfl | rfl | rfl | rfl | rfl | rfl | rfl | rfl | rfl | rfl | rfl <;> rfl
/-- the copy with two more behind it, and the texts of the first k with two more behind them -/
structure Eo (w : World) (A : Nat) (vals : List (Ch × Value)) (k : Nat) (W : World) : Prop where
  row : W.ownsRow w.heap.size 29 10 (.slice (some ⟨A, 0, none⟩) (vals.length + 2) (vals.length + 2)) (vals.length + 2) (flatV (vals ++ two))
  form : ∀ (i : Nat) (x : Ch × Value), vals[i]? = some x → ∃ g, x.2 = .slice (some ⟨g, 0, none⟩) x.1.tx.length (x.1.tx.length + 2)
  ne : ∀ (i j : Nat) (x y : Ch × Value), vals[i]? = some x → vals[j]? = some y → i ≠ j → x.2.ownBlock ≠ y.2.ownBlock
  old : ∀ (i : Nat) (x : Ch × Value), vals[i]? = some x → k ≤ i → W.ownsRow w.heap.size 9 1 x.2 x.1.tx.length (strs x.1.tx)
  new : ∀ (i : Nat) (x : Ch × Value) (g : Nat), vals[i]? = some x → i < k → x.2 = .slice (some ⟨g, 0, none⟩) x.1.tx.length (x.1.tx.length + 2) → W.ownsRow w.heap.size 9 1 (.slice (some ⟨g, 0, none⟩) (x.1.tx.length + 2) (x.1.tx.length + 2)) (x.1.tx.length + 2) (strs x.1.tx ++ [.string bh1, .string bh2])
  low : Below w.heap.size w W
section
variable {w W W' : World} {A k : Nat} {vals : List (Ch × Value)}
theorem Eo.start {W1 : World} {o : Obj} {n : Nat} (hn : vals.length = n) (hC : CpI w A (n + 2) vals W1) (hT : CpT W1 vals) (hA : w.heap.size ≤ A) (ho : W.ownsRow w.heap.size 29 10 (.slice (some ⟨A, 0, none⟩) (n + 2) (n + 2)) (n + 2) (flatV vals ++ twoC.toList)) (hg : (W1.alloc o).grownBy W (some A)) : Eo w A vals 0 W := by
  subst hn
  obtain ⟨cur, hcur⟩ := hC.block
  refine ⟨by rw [flat_two]; exact ho, fun i x hx => ?_, hT.ne, fun i x hx _ => ?_, fun i x g hx hi => absurd hi (by omega), (hC.bel.alloc hC.bel.size o).grown hg (by rw [World.size_alloc]; have := hC.bel.size; omega) (fun k e => by injection e with e; omega)⟩
  · obtain ⟨g, h1, _⟩ := hT.form i x hx
    exact ⟨g, h1⟩
  · have hx2 := hC.txt x (List.mem_of_getElem? hx)
    refine own_keepC hx2 fun k hk => (hg.block k (by rw [World.size_alloc]; have := (hx2.lt k hk).2; omega) (fun e => ?_)).trans (Below.heap_alloc _ _ _ (hx2.lt k hk).2)
    injection e with e
    subst e
    exact own_typeS hx2 hcur (by decide) hk.symm
theorem Eo.below (h : Eo w A vals k W) (hb : Below W.heap.size W W') : Eo w A vals k W' :=
  ⟨own_keepC h.row fun q hq => hb.block q (h.row.lt q hq).2, h.form, h.ne, fun i x hx hi => own_keepC (h.old i x hx hi) fun q hq => hb.block q ((h.old i x hx hi).lt q hq).2, fun i x g hx hi hg => own_keepC (h.new i x g hx hi hg) fun q hq => hb.block q ((h.new i x g hx hi hg).lt q hq).2, h.low.trans (hb.mono h.low.size)⟩
theorem Eo.cell (h : Eo w A vals k W) {j : Nat} {x : Ch × Value} (hx : vals[j]? = some x) {i : Nat} {u : Value} (hi : i < 10) (hu : (chC x.1 x.2)[i]? = some u) : W.cell? ⟨A, j * 10 + i, none⟩ = some u := by
  have hj := (List.getElem?_eq_some_iff.1 hx).1
  have hg : (flatV (vals ++ two))[j * 10 + i]? = some u := by
    rw [flatV_get (vals := vals ++ two) (by rw [List.length_append]; omega) hi, List.getElem_append_left hj]
    obtain ⟨_, he⟩ := List.getElem?_eq_some_iff.1 hx
    rw [he]
    exact hu
  have := h.row.cells (g := A) rfl _ _ hg
  rw [Addr.add_lit, Nat.zero_add] at this
  exact this
theorem Eo.last (h : Eo w A vals k W) : W.cell? ⟨A, vals.length * 10, none⟩ = some (.int .i64 (-1)) ∧ W.cell? ⟨A, (vals.length + 1) * 10, none⟩ = some (.int .i64 (-2)) := by
  have h1 : (flatV (vals ++ two))[vals.length * 10 + 0]? = some (.int .i64 (-1)) := by
    rw [flatV_get (vals := vals ++ two) (by rw [List.length_append]; simp) (by decide)]
    rw [List.getElem_append_right (Nat.le_refl _)]
    simp [two, chC, Rc.zC]
  have h2 : (flatV (vals ++ two))[(vals.length + 1) * 10 + 0]? = some (.int .i64 (-2)) := by
    rw [flatV_get (vals := vals ++ two) (by rw [List.length_append]; simp) (by decide)]
    rw [List.getElem_append_right (Nat.le_succ _)]
    simp [two, chC, Rc.zC]
  have e1 := h.row.cells (g := A) rfl _ _ h1
  have e2 := h.row.cells (g := A) rfl _ _ h2
  rw [Addr.add_lit, Nat.zero_add] at e1 e2
  exact ⟨e1, e2⟩
theorem Eo.blk (h : Eo w A vals k W) : ∃ cur, W.heap[A]? = some (.cells cur 29 (0, 0)) := by
  rcases h.row.2 with ⟨h1, _⟩ | ⟨g, c, cur, h1, hg, hb, h2⟩
  · cases h1
  · injection h1 with h1; injection h1 with h1; injection h1 with h1; subst h1; exact ⟨cur, hb⟩
theorem Eo.same (h : Eo w A vals k W) {j : Nat} {x : Ch × Value} (hx : vals[j]? = some x) : W.setCell ⟨A, j * 10 + 9, none⟩ x.2 = W ∧ W.frozen? ⟨A, j * 10 + 9, none⟩ = false := by
  obtain ⟨cur, hc⟩ := h.blk
  have h1 := h.cell hx (i := 9) (u := x.2) (by decide) (by simp [chC])
  unfold World.cell? at h1
  rw [show W.heap[(⟨A, j * 10 + 9, none⟩ : Addr).block]? = _ from hc] at h1
  exact ⟨setCell_same hc h1, by unfold World.frozen?; rw [show W.heap[(⟨A, j * 10 + 9, none⟩ : Addr).block]? = _ from hc]; simp⟩
/-- the texts of one more have two behind them -/
theorem Eo.step {g : Nat} {x : Ch × Value} (h : Eo w A vals k W) (hx : vals[k]? = some x) (hg : x.2 = .slice (some ⟨g, 0, none⟩) x.1.tx.length (x.1.tx.length + 2))
    (ho : W'.ownsRow w.heap.size 9 1 (.slice (some ⟨g, 0, none⟩) (x.1.tx.length + 2) (x.1.tx.length + 2)) (x.1.tx.length + 2) (strs x.1.tx ++ [.string bh1, .string bh2])) (hgr : W.grownBy W' (some g)) : Eo w A vals (k + 1) W' := by
  have hold := h.old k x hx (Nat.le_refl _)
  have hlt := hold.lt g (by rw [hg]; rfl)
  obtain ⟨cur, hc⟩ := h.blk
  obtain ⟨cs, hgb⟩ : ∃ cs, W.heap[g]? = some (.cells cs 9 (0, 0)) := by
    rcases hold.2 with ⟨h1, _⟩ | ⟨g', c, cur', h1, _, hb, _⟩
    · rw [hg] at h1; cases h1
    · rw [hg] at h1; injection h1 with h1; injection h1 with h1; injection h1 with h1; subst h1; exact ⟨_, hb⟩
  have hAg : A ≠ g := fun e => by rw [e, hgb] at hc; injection hc with hc; injection hc with _ hc; exact absurd hc (by decide)
  have far : ∀ (i : Nat) (y : Ch × Value), vals[i]? = some y → i ≠ k → y.2.ownBlock ≠ some g := fun i y hy hi e => h.ne i k y x hy hx hi (by rw [e, hg]; rfl)
  refine ⟨own_keepC h.row fun q hq => ?_, h.form, h.ne, fun i y hy hi => own_keepC (h.old i y hy (by omega)) fun q hq => ?_, fun i y g' hy hi hg' => ?_, h.low.grown hgr h.low.size (fun q e => by injection e with e; omega)⟩
  · injection hq with hq
    subst hq
    exact hgr.block _ (lt_of_block hc) (fun e => hAg (by injection e))
  · exact hgr.block q ((h.old i y hy (by omega)).lt q hq).2 (fun e => far i y hy (by omega) (by rw [hq, e]))
  · by_cases hik : i = k
    · subst hik
      rw [hx] at hy
      injection hy with hy
      subst hy
      rw [hg] at hg'
      injection hg' with hg'; injection hg' with hg'; injection hg' with hg'
      subst hg'
      exact ho
    · have hn := h.new i y g' hy (by omega) hg'
      refine own_keepC hn fun q hq => hgr.block q (hn.lt q hq).2 (fun e => far i y hy hik ?_)
      rw [hg']
      injection hq with hq
      injection e with e
      show some g' = some g
      rw [show g' = q from hq, e]
theorem Eo.tail (h : Eo w A vals k W) {j g : Nat} {x : Ch × Value} (hx : vals[j]? = some x) (hj : j < k) (hg : x.2 = .slice (some ⟨g, 0, none⟩) x.1.tx.length (x.1.tx.length + 2)) :
    W.cell? ⟨g, x.1.tx.length, none⟩ = some (.string bh1) ∧ W.cell? ⟨g, x.1.tx.length + 1, none⟩ = some (.string bh2) := by
  have hn := h.new j x g hx hj hg
  have hl : (strs x.1.tx).length = x.1.tx.length := by simp [strs]
  have e1 := hn.cells (g := g) rfl x.1.tx.length (.string bh1) (by rw [List.getElem?_append_right (by omega), hl]; simp)
  have e2 := hn.cells (g := g) rfl (x.1.tx.length + 1) (.string bh2) (by rw [List.getElem?_append_right (by omega), hl]; simp)
  rw [Addr.add_lit, Nat.zero_add] at e1 e2
  exact ⟨e1, e2⟩
/-- what is told reads as the row did -/
theorem Eo.rw {l : List Ch} {cap : Nat} (h : Eo w A vals vals.length W) (hv : vals.map Prod.fst = l) (hb : ∀ c ∈ l, c.tx.length ≤ 140737488351232 ∧ c.rb < 18446744073709551616) : Rw W (.slice (some ⟨A, 0, none⟩) l.length cap) l := by
  obtain ⟨cur, hc⟩ := h.blk
  refine ⟨some ⟨A, 0, none⟩, cap, rfl, fun _ => ⟨A, 0, rfl, lt_of_block hc, fun j hj => ?_⟩⟩
  have hjv : j < vals.length := by rw [← hv, List.length_map] at hj; exact hj
  obtain ⟨x, hx⟩ : ∃ x, vals[j]? = some x := ⟨_, List.getElem?_eq_getElem hjv⟩
  have hlx : l[j]! = x.1 := by
    rw [getElem!_pos l j hj]
    have : l[j]? = some x.1 := by rw [← hv, List.getElem?_map, hx]; rfl
    rw [List.getElem?_eq_getElem hj] at this
    injection this
  have hmem : x.1 ∈ l := by rw [← hlx, getElem!_pos l j hj]; exact List.getElem_mem hj
  obtain ⟨g, hg⟩ := h.form j x hx
  have hn := h.new j x g hx hjv hg
  rw [hlx]
  refine ⟨x.2, ⟨some ⟨g, 0, none⟩, x.1.tx.length + 2, hg, fun _ => ⟨g, 0, rfl, (hn.lt g rfl).2, fun q hq => ?_⟩⟩, (hb _ hmem).1, (hb _ hmem).2, fun i u hi => ?_⟩
  · have hl : (strs x.1.tx).length = x.1.tx.length := by simp [strs]
    have e1 := hn.cells (g := g) rfl q (.string x.1.tx[q]!) (by rw [List.getElem?_append_left (by omega), strs, List.getElem?_map, List.getElem?_eq_getElem hq, getElem!_pos x.1.tx q hq]; rfl)
    rw [Addr.add_lit] at e1
    exact e1
  · rw [Nat.zero_add]
    have h10 : i < 10 := by have := (Array.getElem?_eq_some_iff.1 hi).1; simpa [chC] using this
    exact h.cell hx h10 hi
end
end Go.Proofs.Ytjabnddjahhgoaa

namespace Go.Proofs.Ytjabnddjahhgoaa
open Go.RowKit
open Rc (L V Ch)

theorem val_at {vals : List (Ch × Value)} {l : List Ch} (hv : vals.map Prod.fst = l) {k : Nat} (hk : k < l.length) : ∃ x, vals[k]? = some x ∧ l[k]! = x.1 := by
  have hkv : k < vals.length := by rw [← hv, List.length_map] at hk; exact hk
  refine ⟨_, List.getElem?_eq_getElem hkv, ?_⟩
  rw [getElem!_pos l k hk]
  have : l[k]? = some (vals[k]).1 := by rw [← hv, List.getElem?_map, List.getElem?_eq_getElem hkv]; rfl
  rw [List.getElem?_eq_getElem hk] at this
  injection this

set_option maxRecDepth 100000 in
set_option maxHeartbeats 8000000 in
theorem recordEncodes_walk {w : World} {v : Value} {l : List Ch} (hR : Rw w v l) (hnil : ∀ b off cap', v = .slice (some ⟨b, off, none⟩) l.length cap' → ∀ k, k < l.length → ∀ m ct, w.cell? ⟨b, off + k * 10 + 9, none⟩ = some (.slice none m ct) → ct = 0) (ht : ∀ c ∈ l, c.tx.length ≤ 8796093021952) (hll : l.length ≤ 1353245080301) :
    Calls Try.prog 3 #[v] w fun e w' => e = .returned (.bool true) ∧ Below w.heap.size w w' := by
  obtain ⟨iC, hiC, zC0, zC1, zC2⟩ := info_parts Try.infoCh
  obtain ⟨iS, hiS, zS0, zS1, zS2⟩ := info_parts Try.infoSt
  have HCR := hide (copy_room hR (by omega) ht hnil)
  have HRW := hide hR
  have HBB : Hid (∀ c ∈ l, c.tx.length ≤ 140737488351232 ∧ c.rb < 18446744073709551616) := fun c hc => by
    obtain ⟨j, hj, rfl⟩ := List.getElem_of_mem hc
    obtain ⟨p, cap, _, h2⟩ := hR.form
    obtain ⟨b, off, _, _, h3⟩ := h2 (by omega)
    obtain ⟨t, _, h4, h5, _⟩ := h3 j hj
    rw [getElem!_pos l j hj] at h4 h5
    exact ⟨h4, h5⟩
  have HT8 := hide ht
  obtain ⟨p, cap, rfl, hp⟩ := hR
  have HP : Hid (0 < l.length → ∃ b off, p = some ⟨b, off, none⟩) := hide fun h => by obtain ⟨b, off, h1, h2, _⟩ := hp h; exact ⟨b, off, h1⟩
  clear hp ht hnil
  go_enter Try.func3, Try.ntmps3
  go_wp2_with fail
  refine HCR.out.mono ?_
  rintro e w1 ⟨A, vals, rfl, hv, hC, hT, hA⟩
  have hvl : vals.length = l.length := by rw [← hv, List.length_map]
  have HV := hide hv
  have HC := hide hC
  have HT := hide hT
  have HROW : Hid ((w1.alloc (.cells twoC 29)).ownsRow w.heap.size 29 10 (.slice (some ⟨A, 0, none⟩) l.length (l.length + 2)) l.length (flatV vals)) := by
    have h1 := hC.own
    rw [hvl] at h1
    exact own_keepC h1 fun k hk => Below.heap_alloc _ _ _ (h1.lt k hk).2
  have HNEW := hide (news_new w1 twoC 29)
  clear HCR hv hC hT
  go_upto_region 3 with (at_builtin; refine wpList_append_own_spare _ rfl _ _ 22 rfl w.heap.size 29 iC 10 Try.underlying22 hiC zC1 A l.length (l.length + 2) (flatV vals) rfl HROW.out ⟨w1.heap.size, 0, none⟩ 2 2 twoC.toList rfl rfl HNEW.out two_one (by omega) ?_; intro w2 ho2 hg2)
  have HE0 := hide (Eo.start hvl HC.out HT.out hA ho2 hg2)
  clear HROW HNEW HC HT ho2 hg2
  go_wp2_with fail
  go_loopw [5] (fun u wr => ∃ k : Nat, u = .int .i64 (k : Int) ∧ k ≤ l.length ∧ Hid (Eo w A vals k wr)) (fun u _ => (l.length - (intOf u).toNat))
  case atStart => exact ⟨0, rfl, Nat.zero_le _, HE0⟩
  case round =>
    clear HE0
    obtain ⟨k, rfl, hk, HE⟩ := hrel
    by_cases hkl : k < l.length
    · have hki : (k : Int) < (l.length : Int) := by omega
      obtain ⟨b, off, rfl⟩ := HP.out (by omega)
      obtain ⟨x, hx, hlx⟩ := val_at HV.out hkl
      obtain ⟨pt, ct, -, -, -, hblt, hcx⟩ := HRW.out.at rfl hkl
      have h8 := HT8.out l[k]! (by rw [getElem!_pos l k hkl]; exact List.getElem_mem _)
      rw [hlx] at hcx h8
      have KI := hide (fun V (hV : Below w.heap.size w V) => (hV.cell (p := ⟨b, off + k * 10 + 9, none⟩) hblt).trans (hcx 9 (.slice pt x.1.tx.length ct) (by simp [chC])))
      obtain ⟨g, hg⟩ := HE.out.form k x hx
      have c9 := HE.out.cell hx (i := 9) (u := x.2) (by decide) (by simp [chC])
      have HX := hide hx
      have HG := hide hg
      have HOLD : Hid ((wr.alloc (.cells #[.string bh1, .string bh2] 9)).ownsRow w.heap.size 9 1 (.slice (some ⟨g, 0, none⟩) x.1.tx.length (x.1.tx.length + 2)) x.1.tx.length (strs x.1.tx)) := by
        have h1 := HE.out.old k x hx (Nat.le_refl _)
        rw [hg] at h1
        exact own_keepC h1 fun q hq => Below.heap_alloc _ _ _ (h1.lt q hq).2
      have HNW := hide (news_new wr #[.string bh1, .string bh2] 9)
      have HEA := hide (HE.out.below (below_alloc wr (.cells #[.string bh1, .string bh2] 9)))
      rw [hg] at c9
      have hlenS : (strs x.1.tx).length = x.1.tx.length := by simp [strs]
      clear hx hg hlx hcx hlenS
      obtain ⟨n, hn⟩ : ∃ n, x.1.tx.length = n := ⟨_, rfl⟩
      have HNN := hide hn
      rw [hn] at c9 HOLD KI h8
      have hcut := fun W => cutS W g n (n + 2) (n + 2) (by omega)
      have hcut2 := fun W => cutSAt W g n (n + 2) (n + 2) (by omega)
      clear hn
      go_wp2_with (at_builtin; refine wpList_append_own_spare _ rfl _ _ 27 rfl w.heap.size 9 iS 1 Try.underlying27 hiS zS1 g n (n + 2) (strs x.1.tx) rfl HOLD.out ⟨wr.heap.size, 0, none⟩ 2 2 [.string bh1, .string bh2] rfl rfl HNW.out (by intro u hu; simp at hu; rcases hu with rfl | rfl <;> rfl) (by omega) ?_; intro w3 ho3 hg3; (have HE3 := hide (HEA.out.step HX.out HG.out (by rw [HNN.out]; exact ho3) hg3)); (have i9 := KI.out _ HE3.out.low); (have z9 := (HE3.out.same HX.out).2); (have y9 : w3.cell? ⟨A, k * 10 + 9, none⟩ = some (.slice (some ⟨g, 0, none⟩) n (n + 2)) := by have h1 := HE3.out.cell HX.out (i := 9) (u := x.2) (by decide) (by simp [chC]); rw [HG.out, HNN.out] at h1; exact h1); clear ho3 hg3 c9)
      have hsm := (HE3.out.same HX.out).1
      rw [HG.out, HNN.out] at hsm
      go_roundw
      case rel => exact ⟨k + 1, by go_num, by omega, by rw [hsm]; exact HE3⟩
      case measure => simp only [intOf]; omega
    · have hki : ¬ (k : Int) < (l.length : Int) := by omega
      obtain rfl : k = l.length := by omega
      have HRo := hide (Eo.rw (cap := l.length + 2) (by rw [hvl]; exact HE.out) HV.out HBB.out)
      clear hk hkl
      go_wp2_with fail
      refine (encode_any HRo.out).mono ?_
      rintro e w3 ⟨rfl, hb3⟩
      have HE3 := hide (HE.out.below hb3)
      have HRo3 := hide (HRo.out.below hb3 (Nat.le_refl _))
      have HRi3 := hide (HRW.out.below HE3.out.low (Nat.le_refl _))
      clear hb3 HE HRo
      go_wp2_with fail
      refine (rencode_any HRi3.out).mono ?_
      rintro e w4 ⟨rfl, hb4⟩
      have HE4 := hide (HE3.out.below hb4)
      have HRo4 := hide (HRo3.out.below hb4 (Nat.le_refl _))
      have HRi4 := hide (HRi3.out.below hb4 (Nat.le_refl _))
      clear hb4 HE3 HRo3 HRi3
      generalize Rc.enco l = E at *
      go_wp2_with fail
      refine (same_any HRo4.out HRi4.out (by omega)).mono ?_
      rintro e w5 ⟨rfl, hb5⟩
      rw [decide_eq_true (rfl : l = l)]
      have HE5 := hide (HE4.out.below hb5)
      obtain ⟨k1, k2⟩ := HE5.out.last
      rw [hvl] at k1 k2
      obtain ⟨n1, hn1⟩ : ∃ n1, l.length + 1 = n1 := ⟨_, rfl⟩
      rw [hn1] at k2
      have hn1i : (l.length : Int) + 1 = (n1 : Int) := by omega
      have hl2 : (n1 : Int) < ((l.length + 2 : Nat) : Int) := by omega
      have hl3 : (n1 : Int) < (l.length : Int) + 2 := by omega
      have hl4 : (l.length : Int) < (l.length : Int) + 2 := by omega
      clear hb5 HE4 HRo4 HRi4 hn1
      go_wp2_with fail
      clear k1 k2 hn1i hl2 hl3 hl4
      go_loopw [11] (fun u wr => ∃ j : Nat, u = .int .i64 (j : Int) ∧ j ≤ l.length ∧ Hid (Eo w A vals l.length wr)) (fun u _ => (l.length - (intOf u).toNat))
      case atStart => exact ⟨0, rfl, Nat.zero_le _, HE5⟩
      case round =>
        clear HE5
        obtain ⟨j, rfl, hj, HE⟩ := hrel
        by_cases hjl : j < l.length
        · have hji : (j : Int) < (l.length : Int) := by omega
          obtain ⟨x, hx, hlx⟩ := val_at HV.out hjl
          have h8 := HT8.out l[j]! (by rw [getElem!_pos l j hjl]; exact List.getElem_mem _)
          rw [hlx] at h8
          obtain ⟨g, hg⟩ := HE.out.form j x hx
          have HED : Hid (Eo w A vals l.length wr.drew) := HE.out.below ⟨rfl, rfl, rfl, Nat.le_refl _, fun _ _ => rfl⟩
          have c9 := HED.out.cell hx (i := 9) (u := x.2) (by decide) (by simp [chC])
          obtain ⟨t1, t2⟩ := HED.out.tail hx hjl hg
          rw [hg] at c9
          clear hx hlx hg HE
          generalize x.1.tx.length = n at *
          have hcut := fun W => cutS W g (n + 2) n (n + 2) (Nat.le_refl _)
          have hcut2 := fun W => cutSAt W g (n + 2) n (n + 2) (Nat.le_refl _)
          have hc2 : ((n + 2 : Nat) : Int) = (n : Int) + 2 := by omega
          rw [hc2] at hcut hcut2
          have hwr : IntKind.i64.wrap ((n : Int) + 2) = (n : Int) + 2 := by rw [IntKind.wrap_i64]; omega
          go_wp2_with fail
          refine wp_region_held_drew (S := (fun w' => w' = wr.drew ∧ True)) (by kernel_rfl) (⟨rfl, trivial⟩) (fun hHeld => ?_)
          refine wpAnyH_take (i := 0) (v := (.slice (some ⟨A, 0, none⟩) l.length (l.length + 2))) rfl (by kernel_rfl) (by kernel_rfl) (by kernel_rfl) (fun _ _ _ h => h) (Or.inl ⟨by kernel_rfl, fun w1 hSw => by clear hHeld; obtain ⟨rfl, _⟩ := hSw; go_simp⟩) hHeld ?_
          try simp only [Act.put]
          try simp only [List.getElem_toArray]
          try simp only [List.getElem_cons_succ]
          try simp only [List.getElem_cons_zero]
          try simp only [List.setIfInBounds_toArray]
          try simp only [List.set_cons_succ, List.set_cons_zero]
          refine wpAnyH_take (i := 1) (v := (.int .i64 (j : Int))) rfl (by kernel_rfl) (by kernel_rfl) (by kernel_rfl) (fun _ _ _ h => h) (Or.inl ⟨by kernel_rfl, fun w1 hSw => by clear hHeld; obtain ⟨rfl, _⟩ := hSw; go_simp⟩) hHeld ?_
          try simp only [Act.put]
          try simp only [List.getElem_toArray]
          try simp only [List.getElem_cons_succ]
          try simp only [List.getElem_cons_zero]
          try simp only [List.setIfInBounds_toArray]
          try simp only [List.set_cons_succ, List.set_cons_zero]
          refine wpAnyH_take (i := 2) (v := (.pointer (some ⟨A, j * 10, none⟩))) rfl (by kernel_rfl) (by kernel_rfl) (by kernel_rfl) (fun _ _ _ h => h) (Or.inl ⟨by kernel_rfl, fun w1 hSw => by clear hHeld; obtain ⟨rfl, _⟩ := hSw; go_simp⟩) hHeld ?_
          try simp only [Act.put]
          try simp only [List.getElem_toArray]
          try simp only [List.getElem_cons_succ]
          try simp only [List.getElem_cons_zero]
          try simp only [List.setIfInBounds_toArray]
          try simp only [List.set_cons_succ, List.set_cons_zero]
          refine wpAnyH_take (i := 3) (v := (.pointer (some ⟨A, j * 10 + 9, none⟩))) rfl (by kernel_rfl) (by kernel_rfl) (by kernel_rfl) (fun _ _ _ h => h) (Or.inl ⟨by kernel_rfl, fun w1 hSw => by clear hHeld; obtain ⟨rfl, _⟩ := hSw; go_simp⟩) hHeld ?_
          try simp only [Act.put]
          try simp only [List.getElem_toArray]
          try simp only [List.getElem_cons_succ]
          try simp only [List.getElem_cons_zero]
          try simp only [List.setIfInBounds_toArray]
          try simp only [List.set_cons_succ, List.set_cons_zero]
          refine wpAnyH_take (i := 4) (v := (.slice (some ⟨g, 0, none⟩) n (n + 2))) rfl (by kernel_rfl) (by kernel_rfl) (by kernel_rfl) (fun _ _ _ h => h) (Or.inl ⟨by kernel_rfl, fun w1 hSw => by clear hHeld; obtain ⟨rfl, _⟩ := hSw; go_simp⟩) hHeld ?_
          try simp only [Act.put]
          try simp only [List.getElem_toArray]
          try simp only [List.getElem_cons_succ]
          try simp only [List.getElem_cons_zero]
          try simp only [List.setIfInBounds_toArray]
          try simp only [List.set_cons_succ, List.set_cons_zero]
          refine wpAnyH_take (i := 5) (v := (.slice (some ⟨A, 0, none⟩) l.length (l.length + 2))) rfl (by kernel_rfl) (by kernel_rfl) (by kernel_rfl) (fun _ _ _ h => h) (Or.inl ⟨by kernel_rfl, fun w1 hSw => by clear hHeld; obtain ⟨rfl, _⟩ := hSw; go_simp⟩) hHeld ?_
          try simp only [Act.put]
          try simp only [List.getElem_toArray]
          try simp only [List.getElem_cons_succ]
          try simp only [List.getElem_cons_zero]
          try simp only [List.setIfInBounds_toArray]
          try simp only [List.set_cons_succ, List.set_cons_zero]
          refine wpAnyH_take (i := 6) (v := (.int .i64 (j : Int))) rfl (by kernel_rfl) (by kernel_rfl) (by kernel_rfl) (fun _ _ _ h => h) (Or.inl ⟨by kernel_rfl, fun w1 hSw => by clear hHeld; obtain ⟨rfl, _⟩ := hSw; go_simp⟩) hHeld ?_
          try simp only [Act.put]
          try simp only [List.getElem_toArray]
          try simp only [List.getElem_cons_succ]
          try simp only [List.getElem_cons_zero]
          try simp only [List.setIfInBounds_toArray]
          try simp only [List.set_cons_succ, List.set_cons_zero]
          refine wpAnyH_take (i := 7) (v := (.pointer (some ⟨A, j * 10, none⟩))) rfl (by kernel_rfl) (by kernel_rfl) (by kernel_rfl) (fun _ _ _ h => h) (Or.inl ⟨by kernel_rfl, fun w1 hSw => by clear hHeld; obtain ⟨rfl, _⟩ := hSw; go_simp⟩) hHeld ?_
          try simp only [Act.put]
          try simp only [List.getElem_toArray]
          try simp only [List.getElem_cons_succ]
          try simp only [List.getElem_cons_zero]
          try simp only [List.setIfInBounds_toArray]
          try simp only [List.set_cons_succ, List.set_cons_zero]
          refine wpAnyH_take (i := 8) (v := (.pointer (some ⟨A, j * 10 + 9, none⟩))) rfl (by kernel_rfl) (by kernel_rfl) (by kernel_rfl) (fun _ _ _ h => h) (Or.inl ⟨by kernel_rfl, fun w1 hSw => by clear hHeld; obtain ⟨rfl, _⟩ := hSw; go_simp⟩) hHeld ?_
          try simp only [Act.put]
          try simp only [List.getElem_toArray]
          try simp only [List.getElem_cons_succ]
          try simp only [List.getElem_cons_zero]
          try simp only [List.setIfInBounds_toArray]
          try simp only [List.set_cons_succ, List.set_cons_zero]
          refine wpAnyH_take (i := 9) (v := (.slice (some ⟨g, 0, none⟩) n (n + 2))) rfl (by kernel_rfl) (by kernel_rfl) (by kernel_rfl) (fun _ _ _ h => h) (Or.inl ⟨by kernel_rfl, fun w1 hSw => by clear hHeld; obtain ⟨rfl, _⟩ := hSw; go_simp⟩) hHeld ?_
          try simp only [Act.put]
          try simp only [List.getElem_toArray]
          try simp only [List.getElem_cons_succ]
          try simp only [List.getElem_cons_zero]
          try simp only [List.setIfInBounds_toArray]
          try simp only [List.set_cons_succ, List.set_cons_zero]
          refine wpAnyH_take (i := 10) (v := (.int .i64 (n : Int))) rfl (by kernel_rfl) (by kernel_rfl) (by kernel_rfl) (fun _ _ _ h => h) (Or.inl ⟨by kernel_rfl, fun w1 hSw => by clear hHeld; obtain ⟨rfl, _⟩ := hSw; go_simp⟩) hHeld ?_
          try simp only [Act.put]
          try simp only [List.getElem_toArray]
          try simp only [List.getElem_cons_succ]
          try simp only [List.getElem_cons_zero]
          try simp only [List.setIfInBounds_toArray]
          try simp only [List.set_cons_succ, List.set_cons_zero]
          refine wpAnyH_take (i := 11) (v := (.int .i64 ((n : Int) + 2))) rfl (by kernel_rfl) (by kernel_rfl) (by kernel_rfl) (fun _ _ _ h => h) (Or.inl ⟨by kernel_rfl, fun w1 hSw => by clear hHeld; obtain ⟨rfl, _⟩ := hSw; go_simp⟩) hHeld ?_
          try simp only [Act.put]
          try simp only [List.getElem_toArray]
          try simp only [List.getElem_cons_succ]
          try simp only [List.getElem_cons_zero]
          try simp only [List.setIfInBounds_toArray]
          try simp only [List.set_cons_succ, List.set_cons_zero]
          refine wpAnyH_take (i := 12) (v := (.slice (some ⟨g, 0, none⟩) (n + 2) (n + 2))) rfl (by kernel_rfl) (by kernel_rfl) (by kernel_rfl) (fun _ _ _ h => h) (Or.inl ⟨by kernel_rfl, fun w1 hSw => by clear hHeld; obtain ⟨rfl, _⟩ := hSw; go_simp⟩) hHeld ?_
          try simp only [Act.put]
          try simp only [List.getElem_toArray]
          try simp only [List.getElem_cons_succ]
          try simp only [List.getElem_cons_zero]
          try simp only [List.setIfInBounds_toArray]
          try simp only [List.set_cons_succ, List.set_cons_zero]
          refine wpAnyH_take (i := 13) (v := (.slice (some ⟨g, 0, none⟩) (n + 2) (n + 2))) rfl (by kernel_rfl) (by kernel_rfl) (by kernel_rfl) (fun _ _ _ h => h) (Or.inl ⟨by kernel_rfl, fun w1 hSw => by clear hHeld; obtain ⟨rfl, _⟩ := hSw; go_simp⟩) hHeld ?_
          try simp only [Act.put]
          try simp only [List.getElem_toArray]
          try simp only [List.getElem_cons_succ]
          try simp only [List.getElem_cons_zero]
          try simp only [List.setIfInBounds_toArray]
          try simp only [List.set_cons_succ, List.set_cons_zero]
          refine wpAnyH_done (by kernel_rfl) ?_ _
          clear hHeld
          try simp only [List.getElem_toArray]
          try simp only [List.getElem_cons_succ]
          try simp only [List.getElem_cons_zero]
          obtain ⟨n1, hn1⟩ : ∃ n1, n + 1 = n1 := ⟨_, rfl⟩
          rw [hn1] at t2
          have hn1i : (n : Int) + 1 = (n1 : Int) := by omega
          have hl2 : (n1 : Int) < ((n + 2 : Nat) : Int) := by omega
          have hl3 : (n1 : Int) < (n : Int) + 2 := by omega
          have hl4 : (n : Int) < (n : Int) + 2 := by omega
          clear hcut hcut2 hc2 hn1
          go_wp2_with fail
          go_roundw
          case rel => exact ⟨j + 1, by go_num, by omega, HED⟩
          case measure => simp only [intOf]; omega
        · have hji : ¬ (j : Int) < (l.length : Int) := by omega
          go_wp2_with fail
          refine (fixed_any _).mono ?_
          rintro e w6 ⟨rfl, hb6⟩
          go_wp2_with fail
          go_ret
          exact ⟨rfl, HE.out.low.trans (hb6.mono HE.out.low.size)⟩
end Go.Proofs.Ytjabnddjahhgoaa
