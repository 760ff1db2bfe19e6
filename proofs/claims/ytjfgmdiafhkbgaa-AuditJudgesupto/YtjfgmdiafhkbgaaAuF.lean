import Derived.Test.YtjfgmdiafhkbgaaAuE
namespace Go.Proofs.Ytjfgmdiafhkbgaa
open Go.RowKit Go.MapKept
set_option maxRecDepth 8000

theorem list_eq_at {l m : List ByteArray} (h : l.length = m.length) (he : ∀ j, j < l.length → l[j]! = m[j]!) : l = m := by
  apply List.ext_getElem h
  intro i h1 h2
  have := he i h1
  rwa [getElem!_pos l i h1, getElem!_pos m i h2] at this
set_option maxHeartbeats 1000000 in
theorem equal_any {w : World} {u v : Value} {l m : List ByteArray} (hu : Tx w u l) (hv : Tx w v m) (hl : l.length ≤ 1099511627776) :
    Calls Try.prog 76 #[u, v] w fun e w' => e = .returned (.bool (decide (l = m))) ∧ Below w.heap.size w w' := by
  obtain ⟨p, cap, rfl, _⟩ := hu.shape
  obtain ⟨q, cq, rfl, _⟩ := hv.shape
  have H1 := hide hu
  have H2 := hide hv
  generalize hDD : decide (l = m) = DD
  clear hu hv
  by_cases hlen : l.length = m.length
  case neg =>
    have bl : ((l.length : Int) != (m.length : Int)) = true := by simp; omega
    have HF : Hid (DD = false) := hide (by rw [← hDD]; exact decide_eq_false fun h => hlen (by rw [h]))
    clear hDD
    go_enter Try.func76, Try.ntmps76
    go_wp2
    go_ret
    exact ⟨by rw [HF.out]; rfl, Below.refl _ _⟩
  have bl : ((l.length : Int) != (m.length : Int)) = false := by simp; omega
  have HDD := hide hDD
  have HLn := hide hlen
  clear hDD
  go_enter Try.func76, Try.ntmps76
  go_wp2
  go_loopw [13] (fun u wr => ∃ i n : Nat, u = .int .i64 (i : Int) ∧ i ≤ l.length ∧ wr = w.drewN n ∧ Hid (∀ j, j < i → l[j]! = m[j]!)) (fun u _ => (l.length - (intOf u).toNat))
  case atStart => exact ⟨0, 0, rfl, Nat.zero_le _, rfl, hide (fun j hj => absurd hj (Nat.not_lt_zero _))⟩
  case round =>
    obtain ⟨i, n, rfl, hi, rfl, HJ⟩ := hrel
    by_cases hil : i < l.length
    · obtain ⟨b1, o1, rfl, hl1, hc1⟩ := H1.out.at (by omega)
      obtain ⟨b2, o2, rfl, hl2, hc2⟩ := H2.out.at (by omega)
      have c0 := hc1 i hil
      have c1 := hc2 i (by omega)
      have him : (i : Int) < (m.length : Int) := by omega
      clear hc1 hc2 H1 H2
      by_cases he : l[i]! = m[i]!
      · have HJ2 : Hid (∀ j, j < i + 1 → l[j]! = m[j]!) := hide fun j hj => by
          rcases Nat.lt_succ_iff_lt_or_eq.mp hj with h | h
          · exact HJ.out j h
          · rw [h]; exact he
        rw [← he] at c1
        generalize l[i]! = s at c0 c1
        clear he HJ
        go_wp2
        go_quiet (fail)
        go_wp2
        exact ⟨⟨i + 1, _, by go_num, by omega, rfl, HJ2⟩, by simp [intOf]; omega⟩
      · have HF : Hid (DD = false) := hide (by rw [← HDD.out]; exact decide_eq_false fun h => he (by rw [h]))
        have hbn : (l[i]!.toList == m[i]!.toList) = false := beq_eq_false_iff_ne.2 fun h => he (tl_inj h)
        have hbn' : ¬ l[i]!.toList = m[i]!.toList := fun h => he (tl_inj h)
        generalize l[i]! = s at *
        generalize m[i]! = s' at *
        clear he HJ HDD
        go_wp2
        go_quiet (fail)
        go_wp2
        go_ret
        exact ⟨by rw [HF.out]; rfl, below_drewN (below_drewN (Below.refl _ _) _) _⟩
    · obtain rfl : i = l.length := by omega
      have hki : ¬ ((l.length : Int) < (l.length : Int)) := by omega
      have HF : Hid (DD = true) := hide (by rw [← HDD.out]; exact decide_eq_true (list_eq_at HLn.out HJ.out))
      clear HJ HDD
      go_wp2
      go_ret
      exact ⟨by rw [HF.out]; rfl, below_drewN (Below.refl _ _) _⟩
/-- are texts chunks of a badge, from one on? -/
def arC (h : Hs) (ts : List ByteArray) (ba ix : Int) : Bool := decide (∀ j, j < ts.length → h.ch (ba, ix + (j : Int)) = some ts[j]!)
section
variable {w w' : World} {B b : Nat} {h : Hs} {s : Hi}
set_option maxHeartbeats 1000000 in
theorem areChunks_any (H : Hm w B b h s) {u : Value} {l : List ByteArray} (hu : Tx w u l) (hl : l.length ≤ 1099511627776) (ba ix : Int) (h2 : i64 ba) (h3 : 0 ≤ ix ∧ ix ≤ 1099511627776) :
    Calls Try.prog 64 #[.pointer (some ⟨b, 0, none⟩), u, .int .i64 ba, .int .i64 ix] w fun e w' => e = .returned (.bool (arC h l ba ix)) ∧ Below w.heap.size w w' := by
  obtain ⟨p, cap, rfl, _⟩ := hu.shape
  have H1 := hide hu
  have H0 := hide H
  have HB2 := hide h2
  obtain ⟨i0, i1⟩ := h3
  unfold arC
  generalize hDD : decide (∀ j, j < l.length → h.ch (ba, ix + (j : Int)) = some l[j]!) = DD
  have HDD := hide hDD
  clear hu H h2 hDD
  go_enter Try.func64, Try.ntmps64
  go_wp2
  go_loopw [15] (fun u wr => ∃ i : Nat, u = .int .i64 (i : Int) ∧ i ≤ l.length ∧ Hid (Below w.heap.size w wr) ∧ Hid (∀ j, j < i → h.ch (ba, ix + (j : Int)) = some l[j]!)) (fun u _ => (l.length - (intOf u).toNat))
  case atStart => exact ⟨0, rfl, Nat.zero_le _, hide (Below.refl _ _), hide (fun j hj => absurd hj (Nat.not_lt_zero _))⟩
  case round =>
    obtain ⟨i, rfl, hi, HB, HJ⟩ := hrel
    by_cases hil : i < l.length
    · obtain ⟨b1, o1, rfl, hl1, hc1⟩ := H1.out.at (by omega)
      have c0 := (HB.out.cell (p := ⟨b1, o1 + i, none⟩) hl1).trans (hc1 i hil)
      have HW := H0.out.below HB.out
      have c2 := HW.cell 2 (by decide)
      dsimp only [hc] at c2
      have hlk : (Instr.lookup 69 (.map (some s.mc)) (.agg #[.int .i64 ba, .int .i64 (ix + (i : Int))]) true).run Try.prog wr = .ok (.tuple #[.agg #[.string ((h.ch (ba, ix + (i : Int))).getD ByteArray.empty)], .bool (h.ch (ba, ix + (i : Int))).isSome]) wr := by
        have := HW.ch.look KS_good (a := (ba, ix + (i : Int))) ⟨HB2.out, i64_of (by omega)⟩
        rw [getS] at this
        exact this
      clear hc1 H1 HW
      cases hp : h.ch (ba, ix + (i : Int)) with
      | none =>
        rw [hp] at hlk
        dsimp only [Option.getD_none, Option.isSome_none] at hlk
        have HF : Hid (DD = false) := hide (by rw [← HDD.out]; exact decide_eq_false fun h => by have := h i hil; rw [hp] at this; cases this)
        clear hp HJ HDD
        go_wp2
        go_ret
        exact ⟨by rw [HF.out]; rfl, below_of HB.out (below_alloc _ _)⟩
      | some t =>
        rw [hp] at hlk
        dsimp only [Option.getD_some, Option.isSome_some] at hlk
        by_cases he : t = l[i]!
        · have HJ2 : Hid (∀ j, j < i + 1 → h.ch (ba, ix + (j : Int)) = some l[j]!) := hide fun j hj => by
            rcases Nat.lt_succ_iff_lt_or_eq.mp hj with h | h
            · exact HJ.out j h
            · rw [h, hp, he]
          rw [← he] at c0
          have hbn : (t.toList != t.toList) = false := by simp
          clear he HJ hp
          go_wp2
          exact ⟨⟨i + 1, by go_num, by omega, hide (below_of HB.out (below_alloc _ _)), HJ2⟩, by simp [intOf]; omega⟩
        · have HF : Hid (DD = false) := hide (by rw [← HDD.out]; exact decide_eq_false fun h => by have := h i hil; rw [hp] at this; injection this with this; exact he this)
          have hbn : (t.toList == l[i]!.toList) = false := beq_eq_false_iff_ne.2 fun h => he (tl_inj h)
          have hbn' : ¬ t.toList = l[i]!.toList := fun h => he (tl_inj h)
          generalize l[i]! = s' at *
          clear he HJ HDD hp
          go_wp2
          go_ret
          exact ⟨by rw [HF.out]; rfl, below_of HB.out (below_alloc _ _)⟩
    · obtain rfl : i = l.length := by omega
      have hki : ¬ ((l.length : Int) < (l.length : Int)) := by omega
      have HF : Hid (DD = true) := hide (by rw [← HDD.out]; exact decide_eq_true HJ.out)
      clear HJ HDD
      go_wp2
      go_ret
      exact ⟨by rw [HF.out]; rfl, HB.out⟩
end
end Go.Proofs.Ytjfgmdiafhkbgaa
