import Derived.Test.YtajbkgahgnkodaaPkU
import Derived.BigQuiet
namespace Go.Proofs.Ytajbkgahgnkodaa
open Go.RowKit

theorem app_list (l : List UInt8) (t : ByteArray) : ((⟨l.toArray⟩ : ByteArray) ++ t).data.toList = l ++ t.data.toList := by
  rw [ByteArray.data_append, Array.toList_append]
theorem app_size (l : List UInt8) (t : ByteArray) : ((⟨l.toArray⟩ : ByteArray) ++ t).size = (l ++ t.data.toList).length := by
  rw [ByteArray.size_append, List.length_append]; rfl

set_option maxHeartbeats 2000000 in
set_option maxRecDepth 8000 in
theorem packForms_walk (b : ByteArray) (hb : b.size ≤ 140737488351232) (ad : Option Addr) (kb ko len cap : Nat) (ks : Nat → Int) (w : World) (hs : 0 < len → ad = some ⟨kb, ko, none⟩) (hkb : 0 < len → kb < w.heap.size) (hlen : len ≤ 9223372036854775807)
    (hcell : ∀ i, i < len → w.cell? ⟨kb, ko + i, none⟩ = some (.int .i64 (ks i))) :
    Calls Try.prog 6 #[.string b, .slice ad len cap] w fun e w' => e = .returned (.bool true) ∧ Below w.heap.size w w' := by
  obtain ⟨i0, hi, hz0, hz1, hz2⟩ := info_parts Try.infoB
  go_enter Try.func6, Try.ntmps6
  go_wp2_with fail
  refine (read_any b w).mono ?_
  rintro e w1 ⟨rfl, hR1, hb1⟩
  go_wp2_with fail
  refine (awake_true w1).mono ?_
  rintro e w2 ⟨rfl, hb2⟩
  have hR2 := hR1.below hb2 hR1.lt
  have hb02 := below_tr hb1 hb2
  have hlt2 := hR2.lt
  clear hR1 hb1 hb2
  go_wp2_with fail
  obtain ⟨base, hbase⟩ : ∃ base, base = w2.heap.size := ⟨_, rfl⟩
  have hst : FRel w w.heap.size base b 0 w2.heap.size 0 (w2.alloc (.cells #[] 5)) := ⟨hR2.alloc _, Nat.zero_le _, by rw [hbase]; exact World.ownsRow_made w2 #[] 0 (Nat.le_refl _) (by decide) rfl, hb02.alloc hb02.size _⟩
  have hBb : w.heap.size < base := by omega
  have HST := hide hst
  clear hR2 hb02 hbase hlt2 hst
  go_loopw [6, 7] (fun u v wr => ∃ (i p g c : Nat), u = .slice (some ⟨g, 0, none⟩) p c ∧ v = .int .i64 (i : Int) ∧ i ≤ len ∧ base ≤ g ∧ FRel w w.heap.size base b p g c wr) (fun _ v _ => len - (intOf v).toNat)
  case atStart => exact ⟨0, 0, w2.heap.size, 0, rfl, rfl, Nat.zero_le _, by have := (HST.out.own.lt w2.heap.size rfl).1; exact this, HST.out⟩
  case round =>
    obtain ⟨i, p, g, c, rfl, rfl, hil, hg, hF⟩ := hrel
    clear HST
    by_cases hi2 : i < len
    · have hs' := hs (by omega)
      subst hs'
      obtain ⟨K, HK0⟩ : ∃ K, Hid (ks i = K) := ⟨_, rfl⟩
      have hck : wr.cell? ⟨kb, ko + i, none⟩ = some (.int .i64 K) := by rw [← HK0.out]; exact (hF.bel.cell (hkb (by omega))).trans (hcell i hi2)
      have hi3 : (i : Int) < (len : Int) := by omega
      clear hcell HK0
      rcases (show K = 1 ∨ K = 2 ∨ K = 3 ∨ (K ≠ 1 ∧ K ≠ 2 ∧ K ≠ 3) by omega) with hK | hK | hK | ⟨hK1, hK2, hK3⟩
      · subst hK
        go_wp2_with fail
        refine (rnum_max hF.rd hF.hp hb).mono ?_
        intro e w3 hP
        by_cases hk : numK b p 18446744073709551615 21 = 0
        · obtain ⟨rfl, hR3⟩ := hP.ok hk
          obtain ⟨hq1, hq2, _, hV, hq4⟩ := num_form hF.hp (by decide) hk
          have hq3 : numQ b p = p + (⟨(Pk.enc (numV b p)).toArray⟩ : ByteArray).size := by rw [hq1]; rfl
          clear hq1
          go_wp2_with fail
          refine (pnum_any (numV b p) hV w3).mono ?_
          rintro e w4 ⟨rfl, hb4⟩
          have hR4 := hR3.below hb4 hR3.lt
          have own4 : w4.ownsRow base 5 1 (.slice (some ⟨g, 0, none⟩) p c) p (bc (b.data.toList.take p)) := (hF.own.kept hP.grown (.inr (by simp [Value.ownBlock]; omega))).kept (grown_below hb4 none) (.inr (by simp [Value.ownBlock]))
          have bel4 := below_tr (below_of_grown hF.bel (Nat.le_refl _) hP.grown) hb4
          generalize hsx : (⟨(Pk.enc (numV b p)).toArray⟩ : ByteArray) = sx at *
          have hsd : b.data.toList.take (numQ b p) = b.data.toList.take p ++ sx.data.toList := by first | exact hq4 | (rw [← hsx]; exact hq4)
          generalize numQ b p = Q at *
          have HT : Hid (bc (b.data.toList.take Q) = bc (b.data.toList.take p) ++ Lib.strCells sx) := (show _ = _ by rw [hsd, bc_append]; rfl)
          have HQ : Hid (Q = p + sx.size) := hq3
          have hQ3 : p + sx.size ≤ b.size := by omega
          have HFt : Hid (Calls Try.prog 25 #[.pointer (some ⟨w.heap.size, 0, none⟩)] w4 fun e w' => e = .returned (.tuple #[.int .i64 0, .int .i64 0]) ∧ ∃ n, w' = w4.drewN n) := fault_any hR4
          have hb5 : base ≤ w4.heap.size := Nat.le_of_lt (Nat.lt_of_le_of_lt hg (own4.lt g rfl).2)
          have HR4 : Hid (Rd w4 w.heap.size b (Q : Int) 0) := hR4
          have HO4 : Hid (w4.ownsRow base 5 1 (.slice (some ⟨g, 0, none⟩) p c) p (bc (b.data.toList.take p))) := own4
          have HB4 : Hid (Below w.heap.size w w4) := bel4
          clear hq3 hq4 hsd hsx hF hP hk hR3 hb4 hR4 own4 bel4
          go_wp2_with fail
          refine HFt.out.mono ?_
          rintro e w5 ⟨rfl, n5, rfl⟩
          go_wp2_with (at_builtin; refine Lib.wpList_append_own_string _ rfl _ _ 43 9 rfl base 5 i0 Try.underlying43 Try.underlying9 hi hz0 hz1 hz2 _ _ _ rfl (show (w4.drewN n5).ownsRow base 5 1 (.slice (some ⟨g, 0, none⟩) p c) p (bc (b.data.toList.take p)) from HO4.out) sx rfl (by unfold maxLen; omega) (by omega) hb5 ?_; intro v' w6 hown' hgrow hnil; obtain ⟨g', c', rfl, hg'⟩ := own_shape hown' (fun h => absurd (show Value.slice (some ⟨g, 0, none⟩) p c = .slice none 0 0 from (hnil.1 h).1) (by simp)); rw [← HQ.out, ← HT.out] at hown'; rw [← HQ.out]; have hcv : ∀ n : Nat, (convert 43 9 (.slice (some ⟨g', 0, none⟩) Q c')).run Try.prog (w6.drewN n) = .ok (.string (b.extract 0 Q)) (w6.drewN n) := fun n => own_pre (w := w6.drewN n) (base := base) (by have := HQ.out; omega) hown'; have hR6 : Rd w6 w.heap.size b (Q : Int) 0 := (HR4.out.drew n5).grown hgrow (by simp [Value.ownBlock, Act.eval]; omega); have HB6 : Hid (Below w.heap.size w w6) := (below_dn HB4.out n5).grown hgrow (by have := HB4.out.size; simpa using this) (fun k hk => by simp [Value.ownBlock, Act.eval] at hk; omega); have HO6 := hide hown'; clear hnil hown' hgrow)
          have b7 : decide ((b.size : Int) < (Q : Int)) = false := by simp; omega
          have b8 : (Q : Int) ≤ (b.size : Int) := by omega
          go_quiet (first | (go_at_call 26; refine Calls.quiet_of_same (at_any (hR6.drew _))))
          go_wp2
          go_roundw
          case rel => exact ⟨i + 1, Q, g', c', rfl, by go_num, by omega, hg', ⟨hR6.drew _, by omega, HO6.out, below_dn HB6.out _⟩⟩
          case measure => simp [intOf]; omega
        · obtain ⟨rfl, hR3⟩ := hP.no hk
          have hg3 := hP.grown
          clear hP
          generalize numK b p 18446744073709551615 21 = kk at *
          have b2 : ((kk : Int) != 0) = true := by rw [bne_iff_ne]; omega
          go_wp2_with fail
          refine (pnum_0 w3).mono ?_
          rintro e w4 ⟨rfl, hb4⟩
          have hR4 := hR3.below hb4 hR3.lt
          have own4 : w4.ownsRow base 5 1 (.slice (some ⟨g, 0, none⟩) p c) p (bc (b.data.toList.take p)) := (hF.own.kept hg3 (.inr (by simp [Value.ownBlock]; omega))).kept (grown_below hb4 none) (.inr (by simp [Value.ownBlock]))
          have bel4 := below_tr (below_of_grown hF.bel (Nat.le_refl _) hg3) hb4
          have hcv : ∀ m n : Nat, (convert 43 9 (.slice (some ⟨g, 0, none⟩) p c)).run Try.prog ((w4.drewN m).drewN n) = .ok (.string (b.extract 0 p)) ((w4.drewN m).drewN n) := fun m n => own_pre (w := (w4.drewN m).drewN n) (base := base) hF.hp own4
          have HFt : Hid (Calls Try.prog 25 #[.pointer (some ⟨w.heap.size, 0, none⟩)] w4 fun e w' => e = .returned (.tuple #[.int .i64 (kk : Int), .int .i64 (p : Int)]) ∧ ∃ n, w' = w4.drewN n) := by
            have h := fault_any hR4
            rw [if_neg (show ¬ (kk : Int) = 0 by omega)] at h
            exact h
          have HB4 : Hid (Below w.heap.size w w4) := bel4
          have b8 : (p : Int) ≤ (b.size : Int) := by have := hF.hp; omega
          clear hF hk hR3 hb4 own4 bel4 hg3
          go_wp2_with fail
          refine HFt.out.mono ?_
          rintro e w5 ⟨rfl, n5, rfl⟩
          have hR5 := hR4.drew n5
          have hcv5 := hcv n5
          have HB5 : Hid (Below w.heap.size w (w4.drewN n5)) := below_dn HB4.out _
          clear HFt hcv hR4 HB4
          generalize w4.drewN n5 = w5 at *
          go_wp2_with fail
          go_quiet (first | (go_at_call 26; refine Calls.quiet_of_same (at_any (hR5.drew _))))
          go_wp2
          go_ret
          exact ⟨by simp, below_dn HB5.out _⟩
      · subst hK
        go_wp2_with fail
        refine (rlist_max hF.rd hF.hp hb).mono ?_
        intro e w3 hP
        by_cases hk : numK b p 9223372036854775807 23 = 0
        · obtain ⟨rfl, hR3⟩ := hP.ok hk
          obtain ⟨hq1, hq2, hVm, hV, hq4⟩ := num_form hF.hp (by decide) hk
          have hq3 : numQ b p = p + (⟨(Pk.enc (numV b p)).toArray⟩ : ByteArray).size := by rw [hq1]; rfl
          clear hq1
          go_wp2_with fail
          refine (pnum_any (numV b p) hV w3).mono ?_
          rintro e w4 ⟨rfl, hb4⟩
          have hR4 := hR3.below hb4 hR3.lt
          have own4 : w4.ownsRow base 5 1 (.slice (some ⟨g, 0, none⟩) p c) p (bc (b.data.toList.take p)) := (hF.own.kept hP.grown (.inr (by simp [Value.ownBlock]; omega))).kept (grown_below hb4 none) (.inr (by simp [Value.ownBlock]))
          have bel4 := below_tr (below_of_grown hF.bel (Nat.le_refl _) hP.grown) hb4
          generalize hsx : (⟨(Pk.enc (numV b p)).toArray⟩ : ByteArray) = sx at *
          have hsd : b.data.toList.take (numQ b p) = b.data.toList.take p ++ sx.data.toList := by first | exact hq4 | (rw [← hsx]; exact hq4)
          generalize numQ b p = Q at *
          have HT : Hid (bc (b.data.toList.take Q) = bc (b.data.toList.take p) ++ Lib.strCells sx) := (show _ = _ by rw [hsd, bc_append]; rfl)
          have HQ : Hid (Q = p + sx.size) := hq3
          have hQ3 : p + sx.size ≤ b.size := by omega
          have HFt : Hid (Calls Try.prog 25 #[.pointer (some ⟨w.heap.size, 0, none⟩)] w4 fun e w' => e = .returned (.tuple #[.int .i64 0, .int .i64 0]) ∧ ∃ n, w' = w4.drewN n) := fault_any hR4
          have hb5 : base ≤ w4.heap.size := Nat.le_of_lt (Nat.lt_of_le_of_lt hg (own4.lt g rfl).2)
          have HR4 : Hid (Rd w4 w.heap.size b (Q : Int) 0) := hR4
          have HO4 : Hid (w4.ownsRow base 5 1 (.slice (some ⟨g, 0, none⟩) p c) p (bc (b.data.toList.take p))) := own4
          have HB4 : Hid (Below w.heap.size w w4) := bel4
          clear hq3 hq4 hsd hsx hF hP hk hR3 hb4 hR4 own4 bel4
          go_wp2_with fail
          refine HFt.out.mono ?_
          rintro e w5 ⟨rfl, n5, rfl⟩
          go_wp2_with (at_builtin; refine Lib.wpList_append_own_string _ rfl _ _ 43 9 rfl base 5 i0 Try.underlying43 Try.underlying9 hi hz0 hz1 hz2 _ _ _ rfl (show (w4.drewN n5).ownsRow base 5 1 (.slice (some ⟨g, 0, none⟩) p c) p (bc (b.data.toList.take p)) from HO4.out) sx rfl (by unfold maxLen; omega) (by omega) hb5 ?_; intro v' w6 hown' hgrow hnil; obtain ⟨g', c', rfl, hg'⟩ := own_shape hown' (fun h => absurd (show Value.slice (some ⟨g, 0, none⟩) p c = .slice none 0 0 from (hnil.1 h).1) (by simp)); rw [← HQ.out, ← HT.out] at hown'; rw [← HQ.out]; have hcv : ∀ n : Nat, (convert 43 9 (.slice (some ⟨g', 0, none⟩) Q c')).run Try.prog (w6.drewN n) = .ok (.string (b.extract 0 Q)) (w6.drewN n) := fun n => own_pre (w := w6.drewN n) (base := base) (by have := HQ.out; omega) hown'; have hR6 : Rd w6 w.heap.size b (Q : Int) 0 := (HR4.out.drew n5).grown hgrow (by simp [Value.ownBlock, Act.eval]; omega); have HB6 : Hid (Below w.heap.size w w6) := (below_dn HB4.out n5).grown hgrow (by have := HB4.out.size; simpa using this) (fun k hk => by simp [Value.ownBlock, Act.eval] at hk; omega); have HO6 := hide hown'; clear hnil hown' hgrow)
          have b7 : decide ((b.size : Int) < (Q : Int)) = false := by simp; omega
          have b8 : (Q : Int) ≤ (b.size : Int) := by omega
          go_quiet (first | (go_at_call 26; refine Calls.quiet_of_same (at_any (hR6.drew _))))
          go_wp2
          go_roundw
          case rel => exact ⟨i + 1, Q, g', c', rfl, by go_num, by omega, hg', ⟨hR6.drew _, by omega, HO6.out, below_dn HB6.out _⟩⟩
          case measure => simp [intOf]; omega
        · obtain ⟨rfl, hR3⟩ := hP.no hk
          have hg3 := hP.grown
          clear hP
          generalize numK b p 9223372036854775807 23 = kk at *
          have b2 : ((kk : Int) != 0) = true := by rw [bne_iff_ne]; omega
          go_wp2_with fail
          refine (pnum_0 w3).mono ?_
          rintro e w4 ⟨rfl, hb4⟩
          have hR4 := hR3.below hb4 hR3.lt
          have own4 : w4.ownsRow base 5 1 (.slice (some ⟨g, 0, none⟩) p c) p (bc (b.data.toList.take p)) := (hF.own.kept hg3 (.inr (by simp [Value.ownBlock]; omega))).kept (grown_below hb4 none) (.inr (by simp [Value.ownBlock]))
          have bel4 := below_tr (below_of_grown hF.bel (Nat.le_refl _) hg3) hb4
          have hcv : ∀ m n : Nat, (convert 43 9 (.slice (some ⟨g, 0, none⟩) p c)).run Try.prog ((w4.drewN m).drewN n) = .ok (.string (b.extract 0 p)) ((w4.drewN m).drewN n) := fun m n => own_pre (w := (w4.drewN m).drewN n) (base := base) hF.hp own4
          have HFt : Hid (Calls Try.prog 25 #[.pointer (some ⟨w.heap.size, 0, none⟩)] w4 fun e w' => e = .returned (.tuple #[.int .i64 (kk : Int), .int .i64 (p : Int)]) ∧ ∃ n, w' = w4.drewN n) := by
            have h := fault_any hR4
            rw [if_neg (show ¬ (kk : Int) = 0 by omega)] at h
            exact h
          have HB4 : Hid (Below w.heap.size w w4) := bel4
          have b8 : (p : Int) ≤ (b.size : Int) := by have := hF.hp; omega
          clear hF hk hR3 hb4 own4 bel4 hg3
          go_wp2_with fail
          refine HFt.out.mono ?_
          rintro e w5 ⟨rfl, n5, rfl⟩
          have hR5 := hR4.drew n5
          have hcv5 := hcv n5
          have HB5 : Hid (Below w.heap.size w (w4.drewN n5)) := below_dn HB4.out _
          clear HFt hcv hR4 HB4
          generalize w4.drewN n5 = w5 at *
          go_wp2_with fail
          go_quiet (first | (go_at_call 26; refine Calls.quiet_of_same (at_any (hR5.drew _))))
          go_wp2
          go_ret
          exact ⟨by simp, below_dn HB5.out _⟩
      · subst hK
        go_wp2_with fail
        refine (rbits_any hF.rd hF.hp hb).mono ?_
        intro e w3 hP
        by_cases hk : bitsK b p = 0
        · obtain ⟨rfl, hR3⟩ := hP.ok hk
          obtain ⟨hq2, hV, _, hq4⟩ := bits_form hk
          have hq3 : p + 8 = p + (⟨(Pk.big8 (bitsV b p)).toArray⟩ : ByteArray).size := rfl
          go_wp2_with fail
          refine (pbits_any (bitsV b p) hV w3).mono ?_
          rintro e w4 ⟨rfl, hb4⟩
          have hR4 := hR3.below hb4 hR3.lt
          have own4 : w4.ownsRow base 5 1 (.slice (some ⟨g, 0, none⟩) p c) p (bc (b.data.toList.take p)) := (hF.own.kept hP.grown (.inr (by simp [Value.ownBlock]; omega))).kept (grown_below hb4 none) (.inr (by simp [Value.ownBlock]))
          have bel4 := below_tr (below_of_grown hF.bel (Nat.le_refl _) hP.grown) hb4
          generalize hsx : (⟨(Pk.big8 (bitsV b p)).toArray⟩ : ByteArray) = sx at *
          have hsd : b.data.toList.take (p + 8) = b.data.toList.take p ++ sx.data.toList := by first | exact hq4 | (rw [← hsx]; exact hq4)
          generalize p + 8 = Q at *
          have HT : Hid (bc (b.data.toList.take Q) = bc (b.data.toList.take p) ++ Lib.strCells sx) := (show _ = _ by rw [hsd, bc_append]; rfl)
          have HQ : Hid (Q = p + sx.size) := hq3
          have hQ3 : p + sx.size ≤ b.size := by omega
          have HFt : Hid (Calls Try.prog 25 #[.pointer (some ⟨w.heap.size, 0, none⟩)] w4 fun e w' => e = .returned (.tuple #[.int .i64 0, .int .i64 0]) ∧ ∃ n, w' = w4.drewN n) := fault_any hR4
          have hb5 : base ≤ w4.heap.size := Nat.le_of_lt (Nat.lt_of_le_of_lt hg (own4.lt g rfl).2)
          have HR4 : Hid (Rd w4 w.heap.size b (Q : Int) 0) := hR4
          have HO4 : Hid (w4.ownsRow base 5 1 (.slice (some ⟨g, 0, none⟩) p c) p (bc (b.data.toList.take p))) := own4
          have HB4 : Hid (Below w.heap.size w w4) := bel4
          clear hq3 hq4 hsd hsx hF hP hk hR3 hb4 hR4 own4 bel4
          go_wp2_with fail
          refine HFt.out.mono ?_
          rintro e w5 ⟨rfl, n5, rfl⟩
          go_wp2_with (at_builtin; refine Lib.wpList_append_own_string _ rfl _ _ 43 9 rfl base 5 i0 Try.underlying43 Try.underlying9 hi hz0 hz1 hz2 _ _ _ rfl (show (w4.drewN n5).ownsRow base 5 1 (.slice (some ⟨g, 0, none⟩) p c) p (bc (b.data.toList.take p)) from HO4.out) sx rfl (by unfold maxLen; omega) (by omega) hb5 ?_; intro v' w6 hown' hgrow hnil; obtain ⟨g', c', rfl, hg'⟩ := own_shape hown' (fun h => absurd (show Value.slice (some ⟨g, 0, none⟩) p c = .slice none 0 0 from (hnil.1 h).1) (by simp)); rw [← HQ.out, ← HT.out] at hown'; rw [← HQ.out]; have hcv : ∀ n : Nat, (convert 43 9 (.slice (some ⟨g', 0, none⟩) Q c')).run Try.prog (w6.drewN n) = .ok (.string (b.extract 0 Q)) (w6.drewN n) := fun n => own_pre (w := w6.drewN n) (base := base) (by have := HQ.out; omega) hown'; have hR6 : Rd w6 w.heap.size b (Q : Int) 0 := (HR4.out.drew n5).grown hgrow (by simp [Value.ownBlock, Act.eval]; omega); have HB6 : Hid (Below w.heap.size w w6) := (below_dn HB4.out n5).grown hgrow (by have := HB4.out.size; simpa using this) (fun k hk => by simp [Value.ownBlock, Act.eval] at hk; omega); have HO6 := hide hown'; clear hnil hown' hgrow)
          have b7 : decide ((b.size : Int) < (Q : Int)) = false := by simp; omega
          have b8 : (Q : Int) ≤ (b.size : Int) := by omega
          go_quiet (first | (go_at_call 26; refine Calls.quiet_of_same (at_any (hR6.drew _))))
          go_wp2
          go_roundw
          case rel => exact ⟨i + 1, Q, g', c', rfl, by go_num, by omega, hg', ⟨hR6.drew _, by omega, HO6.out, below_dn HB6.out _⟩⟩
          case measure => simp [intOf]; omega
        · obtain ⟨rfl, hR3⟩ := hP.no hk
          have hg3 := hP.grown
          clear hP
          generalize bitsK b p = kk at *
          have b2 : ((kk : Int) != 0) = true := by rw [bne_iff_ne]; omega
          go_wp2_with fail
          refine (pbits_0 w3).mono ?_
          rintro e w4 ⟨rfl, hb4⟩
          have hR4 := hR3.below hb4 hR3.lt
          have own4 : w4.ownsRow base 5 1 (.slice (some ⟨g, 0, none⟩) p c) p (bc (b.data.toList.take p)) := (hF.own.kept hg3 (.inr (by simp [Value.ownBlock]; omega))).kept (grown_below hb4 none) (.inr (by simp [Value.ownBlock]))
          have bel4 := below_tr (below_of_grown hF.bel (Nat.le_refl _) hg3) hb4
          have hcv : ∀ m n : Nat, (convert 43 9 (.slice (some ⟨g, 0, none⟩) p c)).run Try.prog ((w4.drewN m).drewN n) = .ok (.string (b.extract 0 p)) ((w4.drewN m).drewN n) := fun m n => own_pre (w := (w4.drewN m).drewN n) (base := base) hF.hp own4
          have HFt : Hid (Calls Try.prog 25 #[.pointer (some ⟨w.heap.size, 0, none⟩)] w4 fun e w' => e = .returned (.tuple #[.int .i64 (kk : Int), .int .i64 (p : Int)]) ∧ ∃ n, w' = w4.drewN n) := by
            have h := fault_any hR4
            rw [if_neg (show ¬ (kk : Int) = 0 by omega)] at h
            exact h
          have HB4 : Hid (Below w.heap.size w w4) := bel4
          have b8 : (p : Int) ≤ (b.size : Int) := by have := hF.hp; omega
          clear hF hk hR3 hb4 own4 bel4 hg3
          go_wp2_with fail
          refine HFt.out.mono ?_
          rintro e w5 ⟨rfl, n5, rfl⟩
          have hR5 := hR4.drew n5
          have hcv5 := hcv n5
          have HB5 : Hid (Below w.heap.size w (w4.drewN n5)) := below_dn HB4.out _
          clear HFt hcv hR4 HB4
          generalize w4.drewN n5 = w5 at *
          go_wp2_with fail
          go_quiet (first | (go_at_call 26; refine Calls.quiet_of_same (at_any (hR5.drew _))))
          go_wp2
          go_ret
          exact ⟨by simp, below_dn HB5.out _⟩
      · have b1 : (K == 1) = false := by rw [beq_eq_false_iff_ne]; exact hK1
        have b3 : (K == 2) = false := by rw [beq_eq_false_iff_ne]; exact hK2
        have b4 : (K == 3) = false := by rw [beq_eq_false_iff_ne]; exact hK3
        clear hK1 hK2 hK3
        go_wp2_with fail
        refine (rtext_max hF.rd hF.hp hb).mono ?_
        intro e w3 hP
        by_cases hk : textK b p 9223372036854775807 = 0
        · obtain ⟨rfl, hR3⟩ := hP.ok hk
          obtain ⟨hq2, _, hszb, hq1, hq4⟩ := text_form hF.hp hk
          have hq3 : numQ b p + numV b p = p + ((⟨(Pk.enc (textV b p).size).toArray⟩ : ByteArray) ++ textV b p).size := by rw [app_size]; exact hq1
          rw [← app_list] at hq4
          clear hq1
          go_wp2_with fail
          refine (ptext_any (textV b p) (by omega) w3).mono ?_
          rintro e w4 ⟨rfl, hb4⟩
          have hR4 := hR3.below hb4 hR3.lt
          have own4 : w4.ownsRow base 5 1 (.slice (some ⟨g, 0, none⟩) p c) p (bc (b.data.toList.take p)) := (hF.own.kept hP.grown (.inr (by simp [Value.ownBlock]; omega))).kept (grown_below hb4 none) (.inr (by simp [Value.ownBlock]))
          have bel4 := below_tr (below_of_grown hF.bel (Nat.le_refl _) hP.grown) hb4
          generalize hsx : ((⟨(Pk.enc (textV b p).size).toArray⟩ : ByteArray) ++ textV b p : ByteArray) = sx at *
          have hsd : b.data.toList.take (numQ b p + numV b p) = b.data.toList.take p ++ sx.data.toList := by first | exact hq4 | (rw [← hsx]; exact hq4)
          generalize numQ b p + numV b p = Q at *
          have HT : Hid (bc (b.data.toList.take Q) = bc (b.data.toList.take p) ++ Lib.strCells sx) := (show _ = _ by rw [hsd, bc_append]; rfl)
          have HQ : Hid (Q = p + sx.size) := hq3
          have hQ3 : p + sx.size ≤ b.size := by omega
          have HFt : Hid (Calls Try.prog 25 #[.pointer (some ⟨w.heap.size, 0, none⟩)] w4 fun e w' => e = .returned (.tuple #[.int .i64 0, .int .i64 0]) ∧ ∃ n, w' = w4.drewN n) := fault_any hR4
          have hb5 : base ≤ w4.heap.size := Nat.le_of_lt (Nat.lt_of_le_of_lt hg (own4.lt g rfl).2)
          have HR4 : Hid (Rd w4 w.heap.size b (Q : Int) 0) := hR4
          have HO4 : Hid (w4.ownsRow base 5 1 (.slice (some ⟨g, 0, none⟩) p c) p (bc (b.data.toList.take p))) := own4
          have HB4 : Hid (Below w.heap.size w w4) := bel4
          clear hq3 hq4 hsd hsx hF hP hk hR3 hb4 hR4 own4 bel4
          go_wp2_with fail
          refine HFt.out.mono ?_
          rintro e w5 ⟨rfl, n5, rfl⟩
          go_wp2_with (at_builtin; refine Lib.wpList_append_own_string _ rfl _ _ 43 9 rfl base 5 i0 Try.underlying43 Try.underlying9 hi hz0 hz1 hz2 _ _ _ rfl (show (w4.drewN n5).ownsRow base 5 1 (.slice (some ⟨g, 0, none⟩) p c) p (bc (b.data.toList.take p)) from HO4.out) sx rfl (by unfold maxLen; omega) (by omega) hb5 ?_; intro v' w6 hown' hgrow hnil; obtain ⟨g', c', rfl, hg'⟩ := own_shape hown' (fun h => absurd (show Value.slice (some ⟨g, 0, none⟩) p c = .slice none 0 0 from (hnil.1 h).1) (by simp)); rw [← HQ.out, ← HT.out] at hown'; rw [← HQ.out]; have hcv : ∀ n : Nat, (convert 43 9 (.slice (some ⟨g', 0, none⟩) Q c')).run Try.prog (w6.drewN n) = .ok (.string (b.extract 0 Q)) (w6.drewN n) := fun n => own_pre (w := w6.drewN n) (base := base) (by have := HQ.out; omega) hown'; have hR6 : Rd w6 w.heap.size b (Q : Int) 0 := (HR4.out.drew n5).grown hgrow (by simp [Value.ownBlock, Act.eval]; omega); have HB6 : Hid (Below w.heap.size w w6) := (below_dn HB4.out n5).grown hgrow (by have := HB4.out.size; simpa using this) (fun k hk => by simp [Value.ownBlock, Act.eval] at hk; omega); have HO6 := hide hown'; clear hnil hown' hgrow)
          have b7 : decide ((b.size : Int) < (Q : Int)) = false := by simp; omega
          have b8 : (Q : Int) ≤ (b.size : Int) := by omega
          go_quiet (first | (go_at_call 26; refine Calls.quiet_of_same (at_any (hR6.drew _))))
          go_wp2
          go_roundw
          case rel => exact ⟨i + 1, Q, g', c', rfl, by go_num, by omega, hg', ⟨hR6.drew _, by omega, HO6.out, below_dn HB6.out _⟩⟩
          case measure => simp [intOf]; omega
        · obtain ⟨rfl, hR3⟩ := hP.no hk
          have hg3 := hP.grown
          clear hP
          generalize textK b p 9223372036854775807 = kk at *
          have b2 : ((kk : Int) != 0) = true := by rw [bne_iff_ne]; omega
          go_wp2_with fail
          refine (ptext_0 w3).mono ?_
          rintro e w4 ⟨rfl, hb4⟩
          have hR4 := hR3.below hb4 hR3.lt
          have own4 : w4.ownsRow base 5 1 (.slice (some ⟨g, 0, none⟩) p c) p (bc (b.data.toList.take p)) := (hF.own.kept hg3 (.inr (by simp [Value.ownBlock]; omega))).kept (grown_below hb4 none) (.inr (by simp [Value.ownBlock]))
          have bel4 := below_tr (below_of_grown hF.bel (Nat.le_refl _) hg3) hb4
          have hcv : ∀ m n : Nat, (convert 43 9 (.slice (some ⟨g, 0, none⟩) p c)).run Try.prog ((w4.drewN m).drewN n) = .ok (.string (b.extract 0 p)) ((w4.drewN m).drewN n) := fun m n => own_pre (w := (w4.drewN m).drewN n) (base := base) hF.hp own4
          have HFt : Hid (Calls Try.prog 25 #[.pointer (some ⟨w.heap.size, 0, none⟩)] w4 fun e w' => e = .returned (.tuple #[.int .i64 (kk : Int), .int .i64 (p : Int)]) ∧ ∃ n, w' = w4.drewN n) := by
            have h := fault_any hR4
            rw [if_neg (show ¬ (kk : Int) = 0 by omega)] at h
            exact h
          have HB4 : Hid (Below w.heap.size w w4) := bel4
          have b8 : (p : Int) ≤ (b.size : Int) := by have := hF.hp; omega
          clear hF hk hR3 hb4 own4 bel4 hg3
          go_wp2_with fail
          refine HFt.out.mono ?_
          rintro e w5 ⟨rfl, n5, rfl⟩
          have hR5 := hR4.drew n5
          have hcv5 := hcv n5
          have HB5 : Hid (Below w.heap.size w (w4.drewN n5)) := below_dn HB4.out _
          clear HFt hcv hR4 HB4
          generalize w4.drewN n5 = w5 at *
          go_wp2_with fail
          go_quiet (first | (go_at_call 26; refine Calls.quiet_of_same (at_any (hR5.drew _))))
          go_wp2
          go_ret
          exact ⟨by simp, below_dn HB5.out _⟩
    · have hil2 : i = len := by omega
      have HB : Hid (Below w.heap.size w wr) := hF.bel
      have HL : Hid (Calls Try.prog 27 #[.pointer (some ⟨w.heap.size, 0, none⟩)] wr fun e w' => e = .returned (.int .i64 ((b.size : Int) - (p : Int))) ∧ ∃ n, w' = wr.drewN n) := left_any hF.rd (by omega) (by have := hF.hp; omega) hb
      have hp2 := hF.hp
      have b1 : decide ((i : Int) < (len : Int)) = false := by simp; omega
      clear hF hs hcell hil2
      go_wp2_with (go_at_call 27; refine HL.out.mono ?_; rintro e w' ⟨rfl, n, rfl⟩)
      go_ret
      exact ⟨by simp, below_dn HB.out _⟩
end Go.Proofs.Ytajbkgahgnkodaa
