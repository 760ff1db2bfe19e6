import Derived.Test.YtmmnjkbdldaniaaPkJ
import Derived.Test.YtmmnjkbdldaniaaWrY
namespace Go.Proofs.Ytmmnjkbdldaniaa
open Go.RowKit

/-- the document's reader, four cells of a block -/
structure RR (w : World) (G o : Nat) (b : ByteArray) (p f a : Int) : Prop where
  blk : ∃ cur, w.heap[G]? = some (.cells cur 68 (0, 0))
  c0 : w.cell? ⟨G, o, none⟩ = some (.string b)
  c1 : w.cell? ⟨G, o + 1, none⟩ = some (.int .i64 p)
  c2 : w.cell? ⟨G, o + 2, none⟩ = some (.int .i64 f)
  c3 : w.cell? ⟨G, o + 3, none⟩ = some (.int .i64 a)
/-- of block G the four cells at o alone are turned -/
structure RW (G o : Nat) (w w' : World) : Prop where
  os : w'.os = w.os
  tape : w'.tape = w.tape
  output : w'.output = w.output
  size : w'.heap.size = w.heap.size
  other : ∀ k, k ≠ G → w'.heap[k]? = w.heap[k]?
  same : ∀ cur, w.heap[G]? = some (.cells cur 68 (0, 0)) → ∃ cur', w'.heap[G]? = some (.cells cur' 68 (0, 0)) ∧ cur'.size = cur.size ∧ ∀ i, i < o ∨ o + 4 ≤ i → cur'[i]? = cur[i]?
theorem RW.refl (G o : Nat) (w : World) : RW G o w w := ⟨rfl, rfl, rfl, rfl, fun _ _ => rfl, fun cur h => ⟨cur, h, rfl, fun _ _ => rfl⟩⟩
theorem RW.trans {G o : Nat} {a b c : World} (h : RW G o a b) (k : RW G o b c) : RW G o a c :=
  ⟨k.os.trans h.os, k.tape.trans h.tape, k.output.trans h.output, k.size.trans h.size, fun i hi => (k.other i hi).trans (h.other i hi), fun cur hc => by
    obtain ⟨c1, h1, h2, h3⟩ := h.same cur hc
    obtain ⟨c2, g1, g2, g3⟩ := k.same c1 h1
    exact ⟨c2, g1, g2.trans h2, fun i hi => (g3 i hi).trans (h3 i hi)⟩⟩
theorem RW.drewN (G o : Nat) (w : World) (n : Nat) : RW G o w (w.drewN n) := ⟨rfl, rfl, rfl, rfl, fun _ _ => rfl, fun cur h => ⟨cur, h, rfl, fun _ _ => rfl⟩⟩
theorem heap_set_self (w : World) (g o : Nat) (v : Value) (cur : Array Value) (t : TypeId) (fr : Nat × Nat) (h : w.heap[g]? = some (.cells cur t fr)) : (w.setCell ⟨g, o, none⟩ v).heap[g]? = some (.cells (cur.setIfInBounds o v) t fr) := by
  have hlt := lt_of_block h
  have h' : w.heap[g] = .cells cur t fr := by simpa [Array.getElem?_eq_getElem hlt] using h
  show (w.heap.modify g _)[g]? = _
  rw [Array.getElem?_eq_getElem (by simpa using hlt), Array.getElem_modify_self, h']
  rfl
theorem RW.set (G o : Nat) (w : World) (j : Nat) (hj : j < 4) (v : Value) : RW G o w (w.setCell ⟨G, o + j, none⟩ v) :=
  ⟨rfl, rfl, rfl, by show (w.heap.modify G _).size = _; simp, fun k hk => Below.heap_setCell w ⟨G, o + j, none⟩ v k hk, fun cur hc => ⟨_, heap_set_self w G (o + j) v cur _ _ hc, by simp, fun i hi => by rw [Array.getElem?_setIfInBounds]; split; omega; rfl⟩⟩
section
variable {w w' : World} {G o : Nat} {b : ByteArray} {p f a : Int}
theorem RR.z (h : RR w G o b p f a) (k : Nat) : w.frozen? ⟨G, k, none⟩ = false := by obtain ⟨cur, hc⟩ := h.blk; simp [World.frozen?, hc]
theorem RR.lt (h : RR w G o b p f a) : G < w.heap.size := by obtain ⟨cur, hc⟩ := h.blk; exact lt_of_block hc
theorem RR.drewN (h : RR w G o b p f a) (n : Nat) : RR (w.drewN n) G o b p f a := ⟨h.blk, h.c0, h.c1, h.c2, h.c3⟩
theorem RR.set1 (h : RR w G o b p f a) (q : Int) : RR (w.setCell ⟨G, o + 1, none⟩ (.int .i64 q)) G o b q f a := by
  obtain ⟨cur, hc⟩ := h.blk
  have c0 := h.c0; have c1 := h.c1; have c2 := h.c2; have c3 := h.c3
  refine ⟨⟨_, heap_set_self w G (o + 1) _ cur _ _ hc⟩, ?_, ?_, ?_, ?_⟩
  · rw [World.cell?_setCell_other _ _ _ _ (by simp)]; exact c0
  · exact World.cell?_setCell_same' _ _ _ (by rw [c1]; rfl)
  · rw [World.cell?_setCell_other _ _ _ _ (by simp)]; exact c2
  · rw [World.cell?_setCell_other _ _ _ _ (by simp)]; exact c3
theorem RR.set2 (h : RR w G o b p f a) (q : Int) : RR (w.setCell ⟨G, o + 2, none⟩ (.int .i64 q)) G o b p q a := by
  obtain ⟨cur, hc⟩ := h.blk
  have c0 := h.c0; have c1 := h.c1; have c2 := h.c2; have c3 := h.c3
  refine ⟨⟨_, heap_set_self w G (o + 2) _ cur _ _ hc⟩, ?_, ?_, ?_, ?_⟩
  · rw [World.cell?_setCell_other _ _ _ _ (by simp)]; exact c0
  · rw [World.cell?_setCell_other _ _ _ _ (by simp)]; exact c1
  · exact World.cell?_setCell_same' _ _ _ (by rw [c2]; rfl)
  · rw [World.cell?_setCell_other _ _ _ _ (by simp)]; exact c3
theorem RR.set3 (h : RR w G o b p f a) (q : Int) : RR (w.setCell ⟨G, o + 3, none⟩ (.int .i64 q)) G o b p f q := by
  obtain ⟨cur, hc⟩ := h.blk
  have c0 := h.c0; have c1 := h.c1; have c2 := h.c2; have c3 := h.c3
  refine ⟨⟨_, heap_set_self w G (o + 3) _ cur _ _ hc⟩, ?_, ?_, ?_, ?_⟩
  · rw [World.cell?_setCell_other _ _ _ _ (by simp)]; exact c0
  · rw [World.cell?_setCell_other _ _ _ _ (by simp)]; exact c1
  · rw [World.cell?_setCell_other _ _ _ _ (by simp)]; exact c2
  · exact World.cell?_setCell_same' _ _ _ (by rw [c3]; rfl)
theorem RR.keep (h : RR w G o b p f a) (hs : w'.heap[G]? = w.heap[G]?) : RR w' G o b p f a := by
  have hc : ∀ k, w'.cell? ⟨G, k, none⟩ = w.cell? ⟨G, k, none⟩ := fun k => by simp only [World.cell?, hs]
  refine ⟨by rw [hs]; exact h.blk, ?_, ?_, ?_, ?_⟩
  · rw [hc]; exact h.c0
  · rw [hc]; exact h.c1
  · rw [hc]; exact h.c2
  · rw [hc]; exact h.c3
end

set_option maxHeartbeats 400000 in
theorem wrong_live {w : World} {G o : Nat} {b : ByteArray} {p a : Int} (h : RR w G o b p 0 a) (e : Int) :
    Calls Try.prog 45 #[.pointer (some ⟨G, o, none⟩), .int .i64 e] w fun e' w' => (∃ v, e' = .returned v) ∧ RR w' G o b p e p ∧ RW G o w w' := by
  have c1 := h.c1
  have c2 := h.c2
  have c3 := h.c3
  have z2 := h.z (o + 2)
  have z3 := h.z (o + 3)
  have HE := hide (And.intro ((h.set2 e).set3 p) ((RW.set G o w 2 (by decide) (.int .i64 e)).trans (RW.set G o _ 3 (by decide) (.int .i64 p))))
  clear h
  go_enter Try.func45, Try.ntmps45
  go_wp2
  go_end0
  exact ⟨⟨_, rfl⟩, HE.out.1, HE.out.2⟩

set_option maxHeartbeats 1600000 in
set_option maxRecDepth 40000 in
theorem form_any {w : World} {p : Nat} {b : ByteArray} (hp : p ≤ b.size) (hb : b.size ≤ 140737488351232) :
    Calls Try.prog 54 #[.string b, .int .i64 (p : Int)] w fun e w' => w' = w ∧ ((∃ n m, Pk.dec 0 0 (rest b p) = (0, n, m) ∧ e = .returned (.tuple #[.int .u64 (n : Int), .int .i64 ((p + m : Nat) : Int), .int .i64 0])) ∨ (∃ k : Nat, k ≠ 0 ∧ Pk.dec 0 0 (rest b p) = (k, 0, 0) ∧ e = .returned (.tuple #[.int .u64 0, .int .i64 0, .int .i64 (k : Int)]))) := by
  go_enter Try.func54, Try.ntmps54
  go_wp2_with fail
  go_loopw [7, 8] (fun v i wr => ∃ k acc : Nat, i = .int .i64 (k : Int) ∧ v = .int .u64 (acc : Int) ∧ k ≤ 10 ∧ p + k ≤ b.size ∧ GRel (Pk.dec 0 0 (rest b p)) (rest b p) k acc ∧ wr = w) (fun _ i _ => 10 - (intOf i).toNat)
  case atStart => exact ⟨0, 0, rfl, rfl, by omega, by omega, ⟨by omega, fun _ => ⟨by decide, rfl⟩, fun h => by cases h⟩, rfl⟩
  case round =>
    obtain ⟨k, acc, rfl, rfl, hk10, hpk, hG, rfl⟩ := hrel
    by_cases hk : k < 10
    · have hkI : (k : Int) < 10 := by omega
      by_cases hl2 : p + k < b.size
      · have hi : 0 ≤ (p : Int) + (k : Int) ∧ (p : Int) + (k : Int) < (b.size : Int) := by omega
        have hge : decide ((b.size : Int) ≤ (p : Int) + (k : Int)) = false := by simp; omega
        obtain ⟨c, hc⟩ : ∃ c : UInt8, b[((p : Int) + (k : Int)).toNat]'(by omega) = c := ⟨_, rfl⟩
        have hcb : c.toNat < 256 := UInt8.toNat_lt c
        rcases (show 128 ≤ c.toNat ∨ (c.toNat < 128 ∧ 0 < k ∧ c.toNat = 0) ∨ (c.toNat < 128 ∧ k = 9 ∧ 1 < c.toNat) ∨ (c.toNat < 128 ∧ k = 0) ∨ (c.toNat < 128 ∧ 0 < k ∧ 0 < c.toNat ∧ k ≠ 9) ∨ (k = 9 ∧ c.toNat = 1) by omega) with hA | ⟨hA, hB, hC⟩ | ⟨hA, hB, hC⟩ | ⟨hA, hB⟩ | ⟨hA, hB, hC, hE⟩ | ⟨hB, hA⟩
        · obtain ⟨acc', he, hG'⟩ := hG.next hk hl2 hc hA
          have HE : Hid (bits .or .u64 (acc : Int) (IntKind.u64.wrap ((c.toNat : Int) % 128 * 2 ^ (7 * k))) = (acc' : Int)) := he
          have b4 : decide ((128 : Int) ≤ (c.toNat : Int)) = true := by simp; omega
          clear he hG
          go_wp2_with fail
          exact ⟨⟨k + 1, acc', by go_num, by rw [HE.out], by omega, by omega, hG', by first | rfl | trivial⟩, by simp [intOf]; omega⟩
        · have HD := hide (hG.bad hk hl2 hc hA (.inl ⟨hB, hC⟩))
          have b1 : ((c.toNat : Int) == 0) = true := by rw [beq_iff_eq]; omega
          have b0 : decide ((0 : Int) < (k : Int)) = true := by simp; omega
          clear hC
          have b4 : decide ((128 : Int) ≤ (c.toNat : Int)) = false := by simp; omega
          clear hG
          go_wp2_with fail
          go_ret3
          exact ⟨rfl, .inr ⟨22, by decide, HD.out, rfl⟩⟩
        · have HD := hide (hG.bad hk hl2 hc hA (.inr ⟨hB, hC⟩))
          have b1 : ((c.toNat : Int) == 0) = false := by rw [beq_eq_false_iff_ne]; omega
          have b2 : decide ((1 : Int) < (c.toNat : Int)) = true := by simp; omega
          have b3 : ((k : Int) == 9) = true := by rw [beq_iff_eq]; omega
          clear hB
          have b4 : decide ((128 : Int) ≤ (c.toNat : Int)) = false := by simp; omega
          clear hG
          go_wp2_with fail
          go_ret3
          exact ⟨rfl, .inr ⟨22, by decide, HD.out, rfl⟩⟩
        · obtain ⟨acc', he, hD⟩ := hG.good hk hl2 hc hA (by omega)
          have b3 : ((k : Int) == 9) = false := by rw [beq_eq_false_iff_ne]; omega
          have b0 : decide ((0 : Int) < (k : Int)) = false := by simp; omega
          have b00 : ¬ 0 < k := by omega
          clear hB
          by_cases hz : ((c.toNat : Int) == 0) = true
          all_goals (try (have hz : ((c.toNat : Int) == 0) = false := by simpa using hz))
          all_goals
            have HE : Hid (bits .or .u64 (acc : Int) (IntKind.u64.wrap ((c.toNat : Int) % 128 * 2 ^ (7 * k))) = (acc' : Int)) := he
            have HD : Hid (Pk.dec 0 0 (rest b p) = (0, acc', k + 1)) := hD
            have b4 : decide ((128 : Int) ≤ (c.toNat : Int)) = false := by simp; omega
            clear he hD hG
            go_wp2_with fail
            go_ret3
            exact ⟨rfl, .inl ⟨acc', k + 1, HD.out, by rw [HE.out]; rfl⟩⟩
        · obtain ⟨acc', he, hD⟩ := hG.good hk hl2 hc hA (by omega)
          have b1 : ((c.toNat : Int) == 0) = false := by rw [beq_eq_false_iff_ne]; omega
          have b2 : ((k : Int) == 9) = false := by rw [beq_eq_false_iff_ne]; omega
          have b0 : decide ((0 : Int) < (k : Int)) = true := by simp; omega
          have HE : Hid (bits .or .u64 (acc : Int) (IntKind.u64.wrap ((c.toNat : Int) % 128 * 2 ^ (7 * k))) = (acc' : Int)) := he
          have HD : Hid (Pk.dec 0 0 (rest b p) = (0, acc', k + 1)) := hD
          have b4 : decide ((128 : Int) ≤ (c.toNat : Int)) = false := by simp; omega
          clear he hD hG
          go_wp2_with fail
          go_ret3
          exact ⟨rfl, .inl ⟨acc', k + 1, HD.out, by rw [HE.out]; rfl⟩⟩
        · obtain ⟨acc', he, hD⟩ := hG.good hk hl2 hc (by omega) (by omega)
          have b1 : ((c.toNat : Int) == 0) = false := by rw [beq_eq_false_iff_ne]; omega
          have b2 : decide ((1 : Int) < (c.toNat : Int)) = false := by simp; omega
          have b3 : ((k : Int) == 9) = true := by rw [beq_iff_eq]; omega
          have hAA : c.toNat < 128 := by omega
          clear hA hB
          have HE : Hid (bits .or .u64 (acc : Int) (IntKind.u64.wrap ((c.toNat : Int) % 128 * 2 ^ (7 * k))) = (acc' : Int)) := he
          have HD : Hid (Pk.dec 0 0 (rest b p) = (0, acc', k + 1)) := hD
          have b4 : decide ((128 : Int) ≤ (c.toNat : Int)) = false := by simp; omega
          clear he hD hG
          go_wp2_with fail
          go_ret3
          exact ⟨rfl, .inl ⟨acc', k + 1, HD.out, by rw [HE.out]; rfl⟩⟩
      · have HD := hide (hG.done hk (by omega))
        have hge : decide ((b.size : Int) ≤ (p : Int) + (k : Int)) = true := by simp; omega
        clear hG
        go_wp2_with fail
        go_ret3
        exact ⟨rfl, .inr ⟨20, by decide, HD.out, rfl⟩⟩
    · have HD := hide (hG.ten (by omega))
      have hkI : decide ((k : Int) < 10) = false := by simp; omega
      clear hG
      go_wp2_with fail
      go_ret3
      exact ⟨rfl, .inr ⟨22, by decide, HD.out, rfl⟩⟩

theorem dec_shape : ∀ (l : List UInt8) (i acc : Nat), (∃ n m, Pk.dec i acc l = (0, n, m)) ∨ (∃ k : Nat, k ≠ 0 ∧ Pk.dec i acc l = (k, 0, 0))
  | [], i, acc => by
    unfold Pk.dec
    split
    · exact .inr ⟨20, by decide, rfl⟩
    · exact .inr ⟨22, by decide, rfl⟩
  | c :: l, i, acc => by
    unfold Pk.dec
    split
    · split
      · exact dec_shape l _ _
      · split
        · exact .inr ⟨22, by decide, rfl⟩
        · exact .inl ⟨_, _, rfl⟩
    · exact .inr ⟨22, by decide, rfl⟩
/-- what the document's number comes to -/
def QPost (w : World) (G o p : Nat) (b : ByteArray) (most above : Nat) (e : Ending) (w' : World) : Prop :=
  (numK b p most above = 0 ∧ e = .returned (.tuple #[.int .u64 (numV b p : Int), .int .i64 (numQ b p : Int)]) ∧ RR w' G o b p 0 0 ∧ RW G o w w') ∨
  (numK b p most above ≠ 0 ∧ e = .returned (.tuple #[.int .u64 0, .int .i64 (p : Int)]) ∧ RR w' G o b p (numK b p most above : Int) p ∧ RW G o w w')

set_option maxHeartbeats 1000000 in
theorem number_live {w : World} {G o p most above : Nat} {b : ByteArray} (h : RR w G o b p 0 0) (hp : p ≤ b.size) (hb : b.size ≤ 140737488351232) (ha : above ≠ 0) :
    Calls Try.prog 44 #[.pointer (some ⟨G, o, none⟩), .int .u64 (most : Int), .int .i64 (above : Int)] w (QPost w G o p b most above) := by
  have c0 := h.c0
  have c1 := h.c1
  have c2 := h.c2
  have H := hide h
  clear h
  have HFo := hide (fun W => form_any (w := W) hp hb)
  rcases dec_shape (rest b p) 0 0 with ⟨n, m, hD⟩ | ⟨k, hk, hD⟩
  · have HV : Hid (numV b p = n ∧ numQ b p = p + m) := ⟨by unfold numV; rw [hD], by unfold numQ; rw [hD]⟩
    have HFo2 : Hid (∀ W, Calls Try.prog 54 #[.string b, .int .i64 (p : Int)] W fun e w' => e = .returned (.tuple #[.int .u64 (n : Int), .int .i64 ((p + m : Nat) : Int), .int .i64 0]) ∧ w' = W) := fun W => (HFo.out W).mono (by
      rintro e w' ⟨rfl, ⟨n', m', hD', rfl⟩ | ⟨k', hk', hD', rfl⟩⟩
      · rw [hD] at hD'; simp only [Prod.mk.injEq, true_and] at hD'; obtain ⟨rfl, rfl⟩ := hD'; exact ⟨rfl, rfl⟩
      · rw [hD] at hD'; simp only [Prod.mk.injEq] at hD'; exact absurd hD'.1.symm hk')
    clear HFo
    by_cases hn : n ≤ most
    · have HK := hide (numK_ok (above := above) hD hn)
      have b0 : decide (most < n) = false := by simp; omega
      clear hD
      go_enter Try.func44, Try.ntmps44
      go_wp2_with fail
      go_quiet ((go_at_call 54; exact Calls.quiet_of_same (HFo2.out _)))
      go_wp2_with fail
      go_ret2
      exact .inl ⟨HK.out, by rw [HV.out.1, HV.out.2]; rfl, H.out.drewN _, RW.drewN _ _ _ _⟩
    · have HK := hide (numK_above (most := most) (above := above) hD (by omega))
      have b0 : decide (most < n) = true := by simp; omega
      clear hD HV
      go_enter Try.func44, Try.ntmps44
      go_wp2_with fail
      go_quiet ((go_at_call 54; exact Calls.quiet_of_same (HFo2.out _)))
      go_wp2_with fail
      refine (wrong_live (H.out.drewN _) (above : Int)).mono ?_
      rintro e w2 ⟨⟨u, rfl⟩, hR, hW⟩
      have k1 := hR.c1
      have HR := hide hR
      have HW := hide hW
      clear hR hW
      go_wp2_with fail
      go_quiet (fail)
      go_wp2_with fail
      go_ret2
      exact .inr ⟨by rw [HK.out]; exact ha, rfl, by rw [HK.out]; exact HR.out.drewN _, (RW.drewN _ _ _ _).trans (HW.out.trans (RW.drewN _ _ _ _))⟩
  · have HFo2 : Hid (∀ W, Calls Try.prog 54 #[.string b, .int .i64 (p : Int)] W fun e w' => e = .returned (.tuple #[.int .u64 0, .int .i64 0, .int .i64 (k : Int)]) ∧ w' = W) := fun W => (HFo.out W).mono (by
      rintro e w' ⟨rfl, ⟨n', m', hD', rfl⟩ | ⟨k', hk', hD', rfl⟩⟩
      · rw [hD] at hD'; simp only [Prod.mk.injEq] at hD'; exact absurd hD'.1 hk
      · rw [hD] at hD'; simp only [Prod.mk.injEq] at hD'; obtain ⟨rfl, _⟩ := hD'; exact ⟨rfl, rfl⟩)
    clear HFo
    have HK := hide (numK_bad (most := most) (above := above) hD hk)
    have HKK := hide hk
    have b1 : ((k : Int) != 0) = true := by simp; exact hk
    clear hD hk
    go_enter Try.func44, Try.ntmps44
    go_wp2_with fail
    go_quiet ((go_at_call 54; exact Calls.quiet_of_same (HFo2.out _)))
    go_wp2_with fail
    refine (wrong_live (H.out.drewN _) (k : Int)).mono ?_
    rintro e w2 ⟨⟨u, rfl⟩, hR, hW⟩
    have k1 := hR.c1
    have HR := hide hR
    have HW := hide hW
    clear hR hW
    go_wp2_with fail
    go_quiet (fail)
    go_wp2_with fail
    go_ret2
    exact .inr ⟨by rw [HK.out]; exact HKK.out, rfl, by rw [HK.out]; exact HR.out.drewN _, (RW.drewN _ _ _ _).trans (HW.out.trans (RW.drewN _ _ _ _))⟩
set_option maxHeartbeats 400000 in
theorem number_dead {w : World} {G o : Nat} {b : ByteArray} {p f a : Int} {most above : Int} (h : RR w G o b p f a) (hf : f ≠ 0) :
    Calls Try.prog 44 #[.pointer (some ⟨G, o, none⟩), .int .u64 most, .int .i64 above] w fun e w' => e = .returned (.tuple #[.int .u64 0, .int .i64 p]) ∧ ∃ n, w' = w.drewN n := by
  have c1 := h.c1
  have c2 := h.c2
  have b1 : (f != 0) = true := by simpa using hf
  clear h hf
  go_enter Try.func44, Try.ntmps44
  go_wp2_with fail
  go_quiet (fail)
  go_wp2_with fail
  go_ret2
  exact ⟨rfl, _, rfl⟩
end Go.Proofs.Ytmmnjkbdldaniaa
