import Derived.Test.YthjngodkpldpfaaGreatDoorMgAW

section
namespace Go.Proofs.YthjngodkpldpfaaGreatDoor
open Go.RowKit Go.Shelf

/-- a slice of texts that is only read -/
structure Sl (w : World) (v : Value) (l : List ByteArray) : Prop where
  form : ∃ p cap, v = .slice p l.length cap ∧ l.length ≤ cap ∧ (0 < l.length → ∃ b off, p = some ⟨b, off, none⟩ ∧ b < w.heap.size ∧ ∀ j, j < l.length → w.cell? ⟨b, off + j, none⟩ = some (.string l[j]!))
theorem Sl.below {w w' : World} {v : Value} {l : List ByteArray} (h : Sl w v l) (k : Below w.heap.size w w') : Sl w' v l := by
  obtain ⟨p, cap, hv, hcl, h1⟩ := h
  refine ⟨p, cap, hv, hcl, fun h0 => ?_⟩
  obtain ⟨b, off, hp, hb, hc⟩ := h1 h0
  exact ⟨b, off, hp, Nat.lt_of_lt_of_le hb k.size, fun j hj => (k.cell (p := ⟨b, off + j, none⟩) hb).trans (hc j hj)⟩
theorem strs_at (l : List ByteArray) (j : Nat) (h : j < l.length) : (Im.strs l)[j]? = some (.string l[j]!) := by
  unfold Im.strs; rw [List.getElem?_map, List.getElem?_eq_getElem h, getElem!_pos l j h]; rfl
theorem sl_of {w : World} {base : Nat} {v : Value} {l : List ByteArray} (h : w.ownsRow base 9 1 v l.length (Im.strs l)) : Sl w v l := by
  have hf := h.2
  rcases hf with ⟨h1, h2⟩ | ⟨g, cap, cur, rfl, hg, hh, h3⟩
  · exact ⟨none, 0, by rw [h2]; exact h1, by omega, fun h0 => by omega⟩
  · have hcap : l.length ≤ cap := by have := h3; omega
    refine ⟨some ⟨g, 0, none⟩, cap, rfl, hcap, fun _ => ⟨g, 0, rfl, lt_of_block hh, fun j hj => ?_⟩⟩
    have := h.cells (g := g) rfl j _ (strs_at l j hj)
    rw [addr_add] at this
    exact this
theorem bd_drew (w : World) (n : Nat) : Below w.heap.size w (w.drewN n) := ⟨rfl, rfl, rfl, Nat.le_refl _, fun _ _ => rfl⟩
theorem beq_self (s : ByteArray) : (s.toList == s.toList) = true := by simp
set_option maxHeartbeats 1000000 in
theorem sameTexts_eq {w : World} {v1 v2 : Value} {l : List ByteArray} (h1 : Sl w v1 l) (h2 : Sl w v2 l) (hl : l.length < 1000000) :
    Calls Tryz.prog 26 #[v1, v2] w fun e w' => e = .returned (.bool true) ∧ Below w.heap.size w w' := by
  obtain ⟨p1, cap1, rfl, -, k1⟩ := h1
  obtain ⟨p2, cap2, rfl, -, k2⟩ := h2
  go_enter Tryz.func26, Tryz.ntmps26
  go_wp2_with fail
  go_loopw [5] (fun t wr => ∃ i q : Nat, t = .int .i64 (i : Int) ∧ i ≤ l.length ∧ wr = w.drewN q) (fun t _ => l.length - (intOf t).toNat)
  case atStart => exact ⟨0, 0, rfl, Nat.zero_le _, rfl⟩
  case round =>
    obtain ⟨i, q, rfl, hil, rfl⟩ := hrel
    by_cases hlt : i < l.length
    · obtain ⟨b1, o1, rfl, _, c1⟩ := k1 (by omega)
      obtain ⟨b2, o2, rfl, _, c2⟩ := k2 (by omega)
      have d1 := c1 i hlt
      have d2 := c2 i hlt
      generalize l[i]! = s at *
      have hbe := beq_self s
      have hii : (i : Int) < (l.length : Int) := by omega
      have hn : ¬ l.length ≤ i := by omega
      go_wp2_with fail
      go_quiet (fail)
      go_wp2_with fail
      go_roundw
      case rel => exact ⟨i + 1, _, by go_num, by omega, rfl⟩
      case measure => simp [intOf]; omega
    · obtain rfl : i = l.length := by omega
      have hii : ¬ (l.length : Int) < (l.length : Int) := by omega
      go_wp2_with fail
      go_ret
      exact ⟨rfl, bd_drew w q⟩
/-- an outcome, read -/
structure OutS (w : World) (o : Value) (c b st : Nat) (ch pc : List ByteArray) : Prop where
  form : ∃ cv pv, o = .agg #[.int .i64 (c : Int), .int .u64 (b : Int), cv, pv, .int .i64 (st : Int)] ∧ Sl w cv ch ∧ Sl w pv pc
theorem OutS.below {w w' : World} {o : Value} {c b st : Nat} {ch pc : List ByteArray} (h : OutS w o c b st ch pc) (k : Below w.heap.size w w') : OutS w' o c b st ch pc := by
  obtain ⟨cv, pv, ho, h1, h2⟩ := h
  exact ⟨cv, pv, ho, h1.below k, h2.below k⟩
theorem out_s {w : World} {base : Nat} {o : Value} {I : Mc × List (Nat × ByteArray)} (h : Out w base o I) : OutS w o (Im.resC I.1) (Im.resB I.1) I.1.dn (Im.chk I.2) (Im.pcs I.2) := by
  obtain ⟨cv, pv, ho, h1, h2⟩ := h
  exact ⟨cv, pv, ho, sl_of h1, sl_of h2⟩
set_option maxHeartbeats 1000000 in
theorem sameOutcome_eq {w : World} {o1 o2 : Value} {c b st : Nat} {ch pc : List ByteArray} (h1 : OutS w o1 c b st ch pc) (h2 : OutS w o2 c b st ch pc) (hl1 : ch.length < 1000000) (hl2 : pc.length < 1000000) :
    Calls Tryz.prog 19 #[o1, o2] w fun e w' => e = .returned (.bool true) ∧ Below w.heap.size w w' := by
  obtain ⟨cv1, pv1, rfl, a1, a2⟩ := h1
  obtain ⟨cv2, pv2, rfl, b1, b2⟩ := h2
  have HS1 := hide (fun w1 (k1 : Sl w1 cv1 ch) (k2 : Sl w1 cv2 ch) => sameTexts_eq k1 k2 hl1)
  have HS2 := hide (fun w1 (k1 : Sl w1 pv1 pc) (k2 : Sl w1 pv2 pc) => sameTexts_eq k1 k2 hl2)
  have HA1 := hide a1
  have HA2 := hide a2
  have HB1 := hide b1
  have HB2 := hide b2
  obtain ⟨p1, c1, rfl, -, -⟩ := a1
  obtain ⟨p2, c2, rfl, -, -⟩ := a2
  obtain ⟨p3, c3, rfl, -, -⟩ := b1
  obtain ⟨p4, c4, rfl, -, -⟩ := b2
  go_enter Tryz.func19, Tryz.ntmps19
  go_wp2_with fail
  have hW : Below w.heap.size w ((w.alloc (.cells #[.int .i64 (c : Int), .int .u64 (b : Int), .slice p1 ch.length c1, .slice p2 pc.length c2, .int .i64 (st : Int)] 48)).alloc (.cells #[.int .i64 (c : Int), .int .u64 (b : Int), .slice p3 ch.length c3, .slice p4 pc.length c4, .int .i64 (st : Int)] 48)) := (below_one w _).trans ((below_one _ _).mono (by simp))
  refine (HS1.out _ (HA1.out.below hW) (HB1.out.below hW)).mono ?_
  rintro e w3 ⟨rfl, hb3⟩
  have HB3 : Hid (Below w.heap.size w w3) := hW.trans (hb3.mono (by simp; omega))
  have x1 : w3.heap[w.heap.size]? = some (.cells #[.int .i64 (c : Int), .int .u64 (b : Int), .slice p1 ch.length c1, .slice p2 pc.length c2, .int .i64 (st : Int)] 48 (0, 0)) := (hb3.block w.heap.size (by simp; omega)).trans ((heap_alloc_old _ _ (by simp)).trans (heap_alloc_new w _))
  have x2 : w3.heap[w.heap.size + 1]? = some (.cells #[.int .i64 (c : Int), .int .u64 (b : Int), .slice p3 ch.length c3, .slice p4 pc.length c4, .int .i64 (st : Int)] 48 (0, 0)) := (hb3.block (w.heap.size + 1) (by simp)).trans (by have q := heap_alloc_new (w.alloc (.cells #[.int .i64 (c : Int), .int .u64 (b : Int), .slice p1 ch.length c1, .slice p2 pc.length c2, .int .i64 (st : Int)] 48)) (.cells #[.int .i64 (c : Int), .int .u64 (b : Int), .slice p3 ch.length c3, .slice p4 pc.length c4, .int .i64 (st : Int)] 48); rw [World.size_alloc] at q; exact q)
  have y1 : w3.cell? ⟨w.heap.size, 3, none⟩ = some (.slice p2 pc.length c2) := (five_of x1).2.2.2.1
  have y2 : w3.cell? ⟨w.heap.size + 1, 3, none⟩ = some (.slice p4 pc.length c4) := (five_of x2).2.2.2.1
  clear x1 x2 hb3 hW
  go_wp2_with fail
  refine (HS2.out _ (HA2.out.below HB3.out) (HB2.out.below HB3.out)).mono ?_
  rintro e w4 ⟨rfl, hb4⟩
  go_wp2_with fail
  go_ret
  exact ⟨rfl, HB3.out.trans (hb4.mono HB3.out.size)⟩
set_option maxHeartbeats 1000000 in
theorem begins_eq {w : World} {v1 v2 : Value} {a t : List ByteArray} (h1 : Sl w v1 a) (h2 : Sl w v2 (a ++ t)) (hl : (a ++ t).length < 1000000) :
    Calls Tryz.prog 27 #[v1, v2] w fun e w' => e = .returned (.bool true) ∧ Below w.heap.size w w' := by
  have HA := hide h1
  have HB := hide h2
  obtain ⟨p1, c1, rfl, -, -⟩ := h1
  obtain ⟨p2, c2, rfl, hcap, -⟩ := h2
  rw [List.length_append] at hcap hl HB ⊢
  have haz : Option.map (fun x : Addr => x.add 0) p2 = p2 := by cases p2 <;> simp [Addr.add]
  have hle : (a.length : Int) ≤ (a.length : Int) + (t.length : Int) := by omega
  have hci : (a.length : Int) ≤ (c2 : Int) := by omega
  have HV : Hid (Sl w (.slice p2 a.length c2) a) := by
    obtain ⟨p, cap, hv, hc, h1⟩ := HB.out
    rw [← List.length_append] at hv
    injection hv with e1 e2 e3
    subst e1 e3
    refine ⟨p2, c2, rfl, by omega, fun h0 => ?_⟩
    obtain ⟨b, off, hp, hb, hcell⟩ := h1 (by rw [List.length_append]; omega)
    refine ⟨b, off, hp, hb, fun j hj => ?_⟩
    have := hcell j (by rw [List.length_append]; omega)
    rw [getElem!_pos (a ++ t) j (by rw [List.length_append]; omega), List.getElem_append_left hj] at this
    rw [getElem!_pos a j hj]
    exact this
  have HS := hide (sameTexts_eq HA.out HV.out (by omega))
  go_enter Tryz.func27, Tryz.ntmps27
  go_wp2_with fail
  refine HS.out.mono ?_
  rintro e w4 ⟨rfl, hb4⟩
  go_wp2_with fail
  go_ret
  exact ⟨rfl, hb4⟩
set_option maxRecDepth 20000 in
set_option maxHeartbeats 2000000 in
theorem whole_no {w : World} {v : Value} {fuel : Int} {xs : List In} (hx : ∀ x ∈ xs, x.Fits) (h : Cd w v xs) (hc : (Pg.checkE fuel xs).1 ≠ 0) :
    Calls Tryz.prog 17 #[.agg #[.int .i64 fuel, v]] w fun e w' => e = .returned (.tuple #[.agg #[.int .i64 0, .int .u64 0, .slice none 0 0, .slice none 0 0, .int .i64 0], .int .i64 (Pg.checkE fuel xs).1]) ∧ Below w.heap.size w w' := by
  have HN := hide (fun w1 (h1 : Cd w1 v xs) => new_no hx h1 hc)
  have HCd := hide h
  obtain ⟨p, cap, rfl, -⟩ := h
  generalize Pg.checkE fuel xs = E at *
  have hb : (E.1 != 0) = true := by rw [bne_iff_ne]; exact hc
  clear hc hx
  go_enter Tryz.func17, Tryz.ntmps17
  go_wp2_with fail
  have hW : Below w.heap.size w ((w.alloc (.cells #[.int .i64 fuel, .slice p xs.length cap] 24)).alloc (.cells #[.int .i64 0, .int .u64 0, .slice none 0 0, .slice none 0 0, .int .i64 0] 48)) := (below_one w _).trans ((below_one _ _).mono (by simp))
  refine (HN.out _ (HCd.out.below hW (Nat.le_refl _))).mono ?_
  rintro e w1 ⟨rfl, hb1⟩
  have hr : w1.heap[w.heap.size + 1]? = some (.cells #[.int .i64 0, .int .u64 0, .slice none 0 0, .slice none 0 0, .int .i64 0] 48 (0, 0)) := (hb1.block (w.heap.size + 1) (by simp)).trans (by have q := heap_alloc_new (w.alloc (.cells #[.int .i64 fuel, .slice p xs.length cap] 24)) (.cells #[.int .i64 0, .int .u64 0, .slice none 0 0, .slice none 0 0, .int .i64 0] 48); rw [World.size_alloc] at q; exact q)
  have HB1 : Hid (Below w.heap.size w w1) := hW.trans (hb1.mono (by simp; omega))
  have HR := hide hr
  obtain ⟨r0, r1, r2, r3, r4, rz⟩ := five_of hr
  clear hb1 hr
  go_wp2_with fail
  have q1 := block_set (block_set (block_set (block_set (block_set HR.out 0 (.int .i64 0)) 1 (.int .u64 0)) 2 (.slice none 0 0)) 3 (.slice none 0 0)) 4 (.int .i64 0)
  have gC := grown_trans (grown_set w1 (w.heap.size + 1) 0 (.int .i64 0)) (grown_trans (grown_set _ (w.heap.size + 1) 1 (.int .u64 0)) (grown_trans (grown_set _ (w.heap.size + 1) 2 (.slice none 0 0)) (grown_trans (grown_set _ (w.heap.size + 1) 3 (.slice none 0 0)) (grown_set _ (w.heap.size + 1) 4 (.int .i64 0)))))
  exact bodyPost_ret (res5 rfl _ _ (w.heap.size + 1) _ (.int .i64 E.1) rfl rfl q1 rfl) rfl ⟨rfl, HB1.out.trans (below_of_grown (grown_none w1 0 (some (w.heap.size + 1))) gC (by omega) (by omega) HB1.out.size)⟩
end Go.Proofs.YthjngodkpldpfaaGreatDoor
end

section
namespace Go.Proofs.YthjngodkpldpfaaGreatDoor
open Go.RowKit Go.Shelf

namespace Im
def xsE : List In := [⟨1, 0, 0, 0, 0, 4609434218613702656⟩, ⟨21, 0, 0, 0, 0, 0⟩, ⟨14, 0, 0, 0, 3, 0⟩]
def t31 : ByteArray := ⟨#[51, 112, 45, 49]⟩
end Im
theorem t31_is : (Im.t31.toList == [51, 112, 45, 49]) = true := by kernel_rfl
theorem xsE_check : Pg.checkE 9 Im.xsE = (0, 0) := by decide
theorem xsE_fits : ∀ x ∈ Im.xsE, x.Fits := by
  intro x hx
  simp only [Im.xsE, List.mem_cons, List.not_mem_nil, or_false] at hx
  rcases hx with rfl | rfl | rfl <;> exact ⟨by decide, by decide, by decide, by decide, by decide, by decide⟩
theorem xsE_pok : Pok 9 Im.xsE := by
  obtain ⟨n, hn, hp⟩ := pok_of (fuel := 9) xsE_fits (by rw [xsE_check])
  obtain rfl : n = 9 := by omega
  exact hp
theorem textE : textB 4609434218613702656 = Im.t31 := by
  have h1 : oN 4609434218613702656 = 3 := by decide
  have h2 : pN 4609434218613702656 = -1 := by decide
  have h3 : clsN 4609434218613702656 = 4 := by decide
  unfold textB
  rw [show Gn.canonW 4609434218613702656 = 4609434218613702656 by decide, if_pos (by decide)]
  unfold amtB
  rw [h3, if_neg (by decide), if_neg (by decide), if_neg (by decide), h1, h2]
  rw [Lib.decDigits_one (by decide), show Lib.itoa (-1) = [45, 49] from by unfold Lib.itoa; rw [if_pos (by decide)]; show 45 :: Lib.decDigits 1 = _; rw [Lib.decDigits_one (by decide)]; rfl]
  rfl
theorem endE : Im.end_ Im.xsE 9 = (⟨3, [4609434218613702656, 0, 0, 0, 0, 0, 0, 0], [0, 0, 0, 0, 0, 0, 0, 0], 0, [0, 0, 0, 0, 0, 0, 0, 0], 0, 3, 1, 0, true, 0⟩, [(1, textB 4609434218613702656)]) := by kernel_rfl
theorem itrE : Im.itr Im.xsE 9 Im.m0 2 = (⟨2, [4609434218613702656, 0, 0, 0, 0, 0, 0, 0], [0, 0, 0, 0, 0, 0, 0, 0], 0, [0, 0, 0, 0, 0, 0, 0, 0], 0, 2, 1, 0, false, 0⟩, [(1, textB 4609434218613702656)]) := by kernel_rfl
theorem stpE : Im.stp Im.xsE 9 ⟨2, [4609434218613702656, 0, 0, 0, 0, 0, 0, 0], [0, 0, 0, 0, 0, 0, 0, 0], 0, [0, 0, 0, 0, 0, 0, 0, 0], 0, 2, 1, 0, false, 0⟩ = (⟨3, [4609434218613702656, 0, 0, 0, 0, 0, 0, 0], [0, 0, 0, 0, 0, 0, 0, 0], 0, [0, 0, 0, 0, 0, 0, 0, 0], 0, 3, 1, 0, true, 0⟩, 0, ByteArray.empty) := by kernel_rfl
theorem cell_of_block {w : World} {Y T i : Nat} {cs : Array Value} {u : Value} (h : w.heap[Y]? = some (.cells cs T (0, 0))) (hi : cs[i]? = some u) : w.cell? ⟨Y, i, none⟩ = some u := by simp [World.cell?, h, hi]
set_option maxHeartbeats 1000000 in
theorem example_any (w : World) : Calls Tryz.prog 33 #[] w fun e w' => ∃ v, e = .returned (.agg #[.int .i64 9, v]) ∧ Cd w' v Im.xsE ∧ Below w.heap.size w w' := by
  go_enter Tryz.func33, Tryz.ntmps33
  go_wp2_with fail
  have b0 := (heap_alloc_old (w.alloc (.cells #[.int .i64 9, .slice (some ⟨w.heap.size + 1, 0, none⟩) 3 3] 24)) (.cells (flatI Im.xsE).toArray 66) (by simp : w.heap.size < _)).trans (heap_alloc_new w _)
  have b1 : ((w.alloc (.cells #[.int .i64 9, .slice (some ⟨w.heap.size + 1, 0, none⟩) 3 3] 24)).alloc (.cells (flatI Im.xsE).toArray 66)).heap[w.heap.size + 1]? = some (.cells (flatI Im.xsE).toArray 66 (0, 0)) := by have q := heap_alloc_new (w.alloc (.cells #[.int .i64 9, .slice (some ⟨w.heap.size + 1, 0, none⟩) 3 3] 24)) (.cells (flatI Im.xsE).toArray 66); rw [World.size_alloc] at q; exact q
  refine bodyPost_ret (results_cell_row (p := 0) (ty := 24) rfl _ _ w.heap.size 24 _ (0, 0) _ rfl b0 Tryz.underlying24 rfl (by kernel_rfl)) rfl ⟨_, rfl, ⟨some ⟨w.heap.size + 1, 0, none⟩, 3, rfl, fun _ => ⟨w.heap.size + 1, 0, rfl, lt_of_block b1, fun j hj i u hi => ?_⟩⟩, (below_one w _).trans ((below_one _ _).mono (by simp))⟩
  have hi6 : i < 6 := by
    rcases Nat.lt_or_ge i 6 with h' | h'
    · exact h'
    · rw [List.getElem?_eq_none (by simpa [In.cs] using h')] at hi; cases hi
  have := flatI_of hj hi6 hi
  rw [Nat.zero_add]
  exact cell_of_block b1 (by rw [List.getElem?_toArray]; exact this)
theorem wholeE (w : World) (v : Value) (h : Cd w v Im.xsE) (hT : Tbs w) : Calls Tryz.prog 17 #[.agg #[.int .i64 9, v]] w fun e w' => ∃ g cap ad cap2, e = .returned (.tuple #[.agg #[.int .i64 0, .int .u64 4609434218613702656, .slice (some ⟨g, 0, none⟩) 1 cap, .slice ad 0 cap2, .int .i64 3], .int .i64 0]) ∧ w'.cell? ⟨g, 0, none⟩ = some (.string Im.t31) ∧ Below w.heap.size w w' := by
  refine (whole_ok xsE_fits h xsE_check xsE_pok hT).mono ?_
  rintro e w' ⟨o, rfl, ⟨cv, pv, rfl, hcv, hpv⟩, hb⟩
  rw [endE] at hcv hpv ⊢
  rw [textE] at hcv hpv
  obtain ⟨g, cap, rfl⟩ := own_some (n := 1) hcv (by decide)
  obtain ⟨ad, cap2, rfl⟩ := rown_slice (n := 0) hpv
  exact ⟨g, cap, ad, cap2, rfl, hcv.cells (g := g) rfl 0 (.string Im.t31) rfl, hb⟩
theorem runE {w : World} {B : Nat} {v : Value} (h : Mb w B Im.m0 v 9) (hC : Cdn w v Im.xsE B) (hE : Env w B) : Calls Tryz.prog 22 #[.pointer (some ⟨B, 0, none⟩), .int .i64 2] w fun e w' => ∃ g cap, e = .returned (.slice (some ⟨g, 0, none⟩) 1 cap) ∧ Mb w' B ⟨2, [4609434218613702656, 0, 0, 0, 0, 0, 0, 0], [0, 0, 0, 0, 0, 0, 0, 0], 0, [0, 0, 0, 0, 0, 0, 0, 0], 0, 2, 1, 0, false, 0⟩ v 9 ∧ w'.cell? ⟨g, 0, none⟩ = some (.int .i64 1) ∧ w'.cell? ⟨g, 1, none⟩ = some (.string Im.t31) ∧ w.heap.size ≤ g ∧ g < w'.heap.size ∧ w.grownBy w' (some B) := by
  refine (run_any (xs := Im.xsE) h (m0_ok 3 9 (by decide) (by decide)) xsE_pok.good hC hE (by decide) (by decide) 2 (by decide)).mono ?_
  rintro e w' ⟨u, rfl, hm, ho, hg⟩
  rw [show Int.toNat 2 = 2 from rfl, itrE] at hm ho
  rw [textE] at ho
  obtain ⟨g, cap, rfl⟩ := own_some (n := 1) ho (by decide)
  exact ⟨g, cap, rfl, hm, ho.cells (g := g) rfl 0 _ rfl, ho.cells (g := g) rfl 1 (.string Im.t31) rfl, (ho.lt g rfl).1, (ho.lt g rfl).2, hg⟩
theorem stepE {w : World} {B : Nat} {v : Value} (h : Mb w B ⟨2, [4609434218613702656, 0, 0, 0, 0, 0, 0, 0], [0, 0, 0, 0, 0, 0, 0, 0], 0, [0, 0, 0, 0, 0, 0, 0, 0], 0, 2, 1, 0, false, 0⟩ v 9) (hC : Cdn w v Im.xsE B) (hE : Env w B) :
    Calls Tryz.prog 29 #[.pointer (some ⟨B, 0, none⟩)] w fun e w' => e = .returned (.tuple #[.agg #[.int .i64 0, .string ⟨#[]⟩], .int .i64 0]) ∧ Mb w' B ⟨3, [4609434218613702656, 0, 0, 0, 0, 0, 0, 0], [0, 0, 0, 0, 0, 0, 0, 0], 0, [0, 0, 0, 0, 0, 0, 0, 0], 0, 3, 1, 0, true, 0⟩ v 9 ∧ w.grownBy w' (some B) := by
  have hk := itr_ok (xs := Im.xsE) (m0_ok 3 9 (by decide) (by decide)) xsE_pok.good (fuel := 9) 2
  rw [itrE] at hk
  refine (step_live (xs := Im.xsE) h rfl hk xsE_pok.good hC hE (by decide) (by decide)).mono ?_
  rintro e w' ⟨rfl, hm, hg⟩
  rw [stpE] at hm ⊢
  exact ⟨rfl, hm, hg⟩
abbrev mE : Mc := ⟨3, [4609434218613702656, 0, 0, 0, 0, 0, 0, 0], [0, 0, 0, 0, 0, 0, 0, 0], 0, [0, 0, 0, 0, 0, 0, 0, 0], 0, 3, 1, 0, true, 0⟩
theorem overE {w : World} {B : Nat} {v : Value} (h : Mb w B mE v 9) : Calls Tryz.prog 20 #[.pointer (some ⟨B, 0, none⟩)] w fun e w' => e = .returned (.bool true) ∧ w' = w := over_any h
theorem doneE {w : World} {B : Nat} {v : Value} (h : Mb w B mE v 9) : Calls Tryz.prog 21 #[.pointer (some ⟨B, 0, none⟩)] w fun e w' => e = .returned (.int .i64 3) ∧ w' = w := done_any h
theorem placeE {w : World} {B : Nat} {v : Value} (h : Mb w B mE v 9) : Calls Tryz.prog 28 #[.pointer (some ⟨B, 0, none⟩)] w fun e w' => e = .returned (.int .i64 3) ∧ w' = w := place_any h
theorem regE {w : World} {B : Nat} {v : Value} (h : Mb w B mE v 9) : Calls Tryz.prog 24 #[.pointer (some ⟨B, 0, none⟩), .int .i64 0] w fun e w' => e = .returned (.int .u64 4609434218613702656) ∧ w' = w := reg_any h 0 (by decide)
theorem resultE {w : World} {B : Nat} {v : Value} (h : Mb w B mE v 9) : Calls Tryz.prog 25 #[.pointer (some ⟨B, 0, none⟩)] w fun e w' => e = .returned (.agg #[.int .i64 0, .int .u64 4609434218613702656]) ∧ Below w.heap.size w w' := result_any h
end Go.Proofs.YthjngodkpldpfaaGreatDoor
end
