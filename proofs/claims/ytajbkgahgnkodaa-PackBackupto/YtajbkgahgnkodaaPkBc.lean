import Derived.Test.YtajbkgahgnkodaaPkBb
namespace Go.Proofs.Ytajbkgahgnkodaa
open Go.RowKit

theorem own_cut {w : World} {base g n c k : Nat} {l : List UInt8} (h : w.ownsRow base 5 1 (.slice (some ⟨g, 0, none⟩) n c) n (bc l)) (hn : l.length = n) (hk : k ≤ n) :
    w.ownsRow base 5 1 (.slice (some ⟨g, 0, none⟩) k c) (l.take k).length (bc (l.take k)) := by
  have hl : (l.take k).length = k := by rw [List.length_take]; omega
  rw [hl]
  rcases h.2 with ⟨h1, _⟩ | ⟨g', cap, cur, h1, hb, hg, hc, hm, hs, ht⟩
  · cases h1
  · injection h1 with e1 e2 e3
    injection e1 with e1
    injection e1 with e1
    subst e1; subst e3
    refine ⟨by rw [bc_len, hl, Nat.mul_one], .inr ⟨g, c, cur, rfl, hb, hg, by omega, hm, hs, ?_⟩⟩
    have : bc (l.take k) = (bc l).take k := by simp [bc, List.map_take]
    rw [this, ← ht, List.take_take, Nat.mul_one, Nat.mul_one, Nat.min_eq_left hk]

set_option maxHeartbeats 2000000 in
set_option maxRecDepth 8000 in
theorem packBack_walk (ad : Option Addr) (ab ao len cap : Nat) (K : Nat → Int) (N : Nat → Nat) (S : Nat → ByteArray) (cut : Int) (w : World) (hO : Ths w ad len ab ao K N S) (htot : (Pk.pre K N S len).length ≤ 140737488351232) :
    Calls Try.prog 5 #[.slice ad len cap, .int .i64 cut] w fun e w' => e = .returned (.bool true) ∧ Below w.heap.size w w' := by
  obtain ⟨i0, hi, hz0, hz1, hz2⟩ := info_parts Try.infoB
  have hfew := hO.few
  go_enter Try.func5, Try.ntmps5
  go_wp2_with fail
  refine (awake_true w).mono ?_
  rintro e w1 ⟨rfl, hb1⟩
  go_wp2_with fail
  obtain ⟨base, hbase⟩ : ∃ base, base = w1.heap.size := ⟨_, rfl⟩
  have HST : Hid ((w1.alloc (.cells #[] 5)).ownsRow base 5 1 (.slice (some ⟨w1.heap.size, 0, none⟩) 0 0) 0 (bc []) ∧ Below w.heap.size w (w1.alloc (.cells #[] 5)) ∧ base ≤ w1.heap.size) := ⟨by rw [hbase]; exact World.ownsRow_made w1 #[] 0 (Nat.le_refl _) (by decide) rfl, hb1.alloc hb1.size _, by omega⟩
  have hwb : w.heap.size ≤ base := by have := hb1.size; omega
  clear hb1 hbase
  go_loopw [5, 6] (fun u v wr => ∃ (i P g c : Nat), u = .slice (some ⟨g, 0, none⟩) P c ∧ v = .int .i64 (i : Int) ∧ i ≤ len ∧ base ≤ g ∧ Hid (P = (Pk.pre K N S i).length) ∧ Hid (wr.ownsRow base 5 1 (.slice (some ⟨g, 0, none⟩) P c) P (bc (Pk.pre K N S i))) ∧ Hid (Below w.heap.size w wr)) (fun _ v _ => len - (intOf v).toNat)
  case atStart => exact ⟨0, 0, w1.heap.size, 0, rfl, rfl, Nat.zero_le _, HST.out.2.2, rfl, HST.out.1, HST.out.2.1⟩
  case round =>
    obtain ⟨i, P, g, c, rfl, rfl, hil, hg, HP, HOW, HB⟩ := hrel
    clear HST
    by_cases hi2 : i < len
    · have hs' := hO.some (by omega)
      subst hs'
      have hck : wr.cell? ⟨ab, ao + i * 3, none⟩ = some (.int .i64 (K i)) := (HB.out.cell (hO.old (by omega))).trans (hO.c0 i hi2)
      have hcn : wr.cell? ⟨ab, ao + i * 3 + 1, none⟩ = some (.int .u64 (N i : Int)) := (HB.out.cell (hO.old (by omega))).trans (hO.c1 i hi2)
      have hcs : wr.cell? ⟨ab, ao + i * 3 + 2, none⟩ = some (.string (S i)) := (HB.out.cell (hO.old (by omega))).trans (hO.c2 i hi2)
      have hNi := hO.bN i hi2
      have hSi := hO.bS i hi2
      have hi3 : (i : Int) < (len : Int) := by omega
      have hm1 := Pk.pre_mono K N S (i := i + 1) (j := len) (by omega)
      have hpl : Pk.pre K N S (i + 1) = Pk.pre K N S i ++ Pk.lay (K i) (N i) (S i) := rfl
      obtain ⟨P2, hP2⟩ : ∃ P2, P2 = (Pk.pre K N S (i + 1)).length := ⟨_, rfl⟩
      have hP22 : P2 = P + (Pk.lay (K i) (N i) (S i)).length := by rw [hP2, hpl, List.length_append, ← HP.out]
      have hP23 : P2 ≤ 140737488351232 := by omega
      have HP2 := hide hP2
      have hbc : bc (Pk.pre K N S (i + 1)) = bc (Pk.pre K N S i) ++ bc (Pk.lay (K i) (N i) (S i)) := by rw [hpl, bc_append]
      clear hO hP2 hpl hm1
      generalize K i = Ki at *
      generalize N i = Ni at *
      generalize S i = Si at *
      rcases (show Ki = 1 ∨ Ki = 2 ∨ (Ki ≠ 1 ∧ Ki ≠ 2) by omega) with hK | hK | ⟨hK1, hK2⟩
      · subst hK
        have hlay : Pk.lay 1 Ni Si = Pk.enc Ni := if_pos rfl
        rw [hlay] at hP22 hbc
        clear hlay
        go_wp2_with fail
        refine (pnum_any Ni hNi wr).mono ?_
        rintro e w3 ⟨rfl, hb3⟩
        generalize hsx : (⟨(Pk.enc Ni).toArray⟩ : ByteArray) = sx at *
        have hsz : sx.size = (Pk.enc Ni).length := by rw [← hsx]; rfl
        have HQ : Hid (P2 = P + sx.size) := (show P2 = _ by omega)
        have HT : Hid (bc (Pk.pre K N S (i + 1)) = bc (Pk.pre K N S i) ++ Lib.strCells sx) := (show _ = _ by rw [hbc, ← hsx]; rfl)
        have hQ3 : P + sx.size ≤ 140737488351232 := by omega
        have HO3 : Hid (w3.ownsRow base 5 1 (.slice (some ⟨g, 0, none⟩) P c) P (bc (Pk.pre K N S i))) := HOW.out.kept (grown_below hb3 none) (.inr (by simp [Value.ownBlock]))
        have HB3 : Hid (Below w.heap.size w w3) := below_tr HB.out hb3
        have hb5 : base ≤ w3.heap.size := Nat.le_of_lt (Nat.lt_of_le_of_lt hg (HO3.out.lt g rfl).2)
        clear hsx hsz hP22 hbc hb3 HOW HB
        go_wp2_with (at_builtin; refine Lib.wpList_append_own_string _ rfl _ _ 43 9 rfl base 5 i0 Try.underlying43 Try.underlying9 hi hz0 hz1 hz2 _ _ _ rfl HO3.out sx rfl (by unfold maxLen; omega) (by omega) hb5 ?_; intro v' w6 hown' hgrow hnil; obtain ⟨g', c', rfl, hg'⟩ := own_shape hown' (fun h => absurd (show Value.slice (some ⟨g, 0, none⟩) P c = .slice none 0 0 from (hnil.1 h).1) (by simp)); rw [← HQ.out, ← HT.out] at hown'; rw [← HQ.out]; have HB6 : Hid (Below w.heap.size w w6) := HB3.out.grown hgrow (by have := HB3.out.size; exact this) (fun k hk => by simp [Value.ownBlock, Act.eval] at hk; omega); have HO6 := hide hown'; clear hnil hown' hgrow)
        exact ⟨⟨i + 1, P2, g', c', rfl, by go_num, by omega, hg', HP2, HO6, HB6⟩, by simp [intOf]; omega⟩
      · subst hK
        have hlay : Pk.lay 2 Ni Si = Pk.big8 Ni := rfl
        rw [hlay] at hP22 hbc
        clear hlay
        go_wp2_with fail
        refine (pbits_any Ni hNi wr).mono ?_
        rintro e w3 ⟨rfl, hb3⟩
        generalize hsx : (⟨(Pk.big8 Ni).toArray⟩ : ByteArray) = sx at *
        have hsz : sx.size = (Pk.big8 Ni).length := by rw [← hsx]; rfl
        have HQ : Hid (P2 = P + sx.size) := (show P2 = _ by omega)
        have HT : Hid (bc (Pk.pre K N S (i + 1)) = bc (Pk.pre K N S i) ++ Lib.strCells sx) := (show _ = _ by rw [hbc, ← hsx]; rfl)
        have hQ3 : P + sx.size ≤ 140737488351232 := by omega
        have HO3 : Hid (w3.ownsRow base 5 1 (.slice (some ⟨g, 0, none⟩) P c) P (bc (Pk.pre K N S i))) := HOW.out.kept (grown_below hb3 none) (.inr (by simp [Value.ownBlock]))
        have HB3 : Hid (Below w.heap.size w w3) := below_tr HB.out hb3
        have hb5 : base ≤ w3.heap.size := Nat.le_of_lt (Nat.lt_of_le_of_lt hg (HO3.out.lt g rfl).2)
        clear hsx hsz hP22 hbc hb3 HOW HB
        go_wp2_with (at_builtin; refine Lib.wpList_append_own_string _ rfl _ _ 43 9 rfl base 5 i0 Try.underlying43 Try.underlying9 hi hz0 hz1 hz2 _ _ _ rfl HO3.out sx rfl (by unfold maxLen; omega) (by omega) hb5 ?_; intro v' w6 hown' hgrow hnil; obtain ⟨g', c', rfl, hg'⟩ := own_shape hown' (fun h => absurd (show Value.slice (some ⟨g, 0, none⟩) P c = .slice none 0 0 from (hnil.1 h).1) (by simp)); rw [← HQ.out, ← HT.out] at hown'; rw [← HQ.out]; have HB6 : Hid (Below w.heap.size w w6) := HB3.out.grown hgrow (by have := HB3.out.size; exact this) (fun k hk => by simp [Value.ownBlock, Act.eval] at hk; omega); have HO6 := hide hown'; clear hnil hown' hgrow)
        exact ⟨⟨i + 1, P2, g', c', rfl, by go_num, by omega, hg', HP2, HO6, HB6⟩, by simp [intOf]; omega⟩
      · have b1 : (Ki == 1) = false := by rw [beq_eq_false_iff_ne]; exact hK1
        have b2 : (Ki == 2) = false := by rw [beq_eq_false_iff_ne]; exact hK2
        have hlay : Pk.lay Ki Ni Si = Pk.enc Si.size ++ Si.data.toList := (by unfold Pk.lay; rw [if_neg hK1, if_neg hK2])
        rw [hlay] at hP22 hbc
        clear hlay
        go_wp2_with fail
        refine (ptext_any Si hSi wr).mono ?_
        rintro e w3 ⟨rfl, hb3⟩
        generalize hsx : ((⟨(Pk.enc Si.size).toArray⟩ : ByteArray) ++ Si : ByteArray) = sx at *
        have hsz : sx.size = (Pk.enc Si.size ++ Si.data.toList).length := by rw [← hsx]; exact app_size _ _
        have HQ : Hid (P2 = P + sx.size) := (show P2 = _ by omega)
        have HT : Hid (bc (Pk.pre K N S (i + 1)) = bc (Pk.pre K N S i) ++ Lib.strCells sx) := (show _ = _ by rw [hbc, ← hsx]; rw [strCells_bc, app_list])
        have hQ3 : P + sx.size ≤ 140737488351232 := by omega
        have HO3 : Hid (w3.ownsRow base 5 1 (.slice (some ⟨g, 0, none⟩) P c) P (bc (Pk.pre K N S i))) := HOW.out.kept (grown_below hb3 none) (.inr (by simp [Value.ownBlock]))
        have HB3 : Hid (Below w.heap.size w w3) := below_tr HB.out hb3
        have hb5 : base ≤ w3.heap.size := Nat.le_of_lt (Nat.lt_of_le_of_lt hg (HO3.out.lt g rfl).2)
        clear hsx hsz hP22 hbc hb3 HOW HB
        go_wp2_with (at_builtin; refine Lib.wpList_append_own_string _ rfl _ _ 43 9 rfl base 5 i0 Try.underlying43 Try.underlying9 hi hz0 hz1 hz2 _ _ _ rfl HO3.out sx rfl (by unfold maxLen; omega) (by omega) hb5 ?_; intro v' w6 hown' hgrow hnil; obtain ⟨g', c', rfl, hg'⟩ := own_shape hown' (fun h => absurd (show Value.slice (some ⟨g, 0, none⟩) P c = .slice none 0 0 from (hnil.1 h).1) (by simp)); rw [← HQ.out, ← HT.out] at hown'; rw [← HQ.out]; have HB6 : Hid (Below w.heap.size w w6) := HB3.out.grown hgrow (by have := HB3.out.size; exact this) (fun k hk => by simp [Value.ownBlock, Act.eval] at hk; omega); have HO6 := hide hown'; clear hnil hown' hgrow)
        exact ⟨⟨i + 1, P2, g', c', rfl, by go_num, by omega, hg', HP2, HO6, HB6⟩, by simp [intOf]; omega⟩
    · have hil2 : i = len := by omega
      rw [hil2] at HP HOW
      have b0 : decide ((i : Int) < (len : Int)) = false := by simp; omega
      have hPl := HP.out
      have hcv : (convert 43 9 (.slice (some ⟨g, 0, none⟩) P c)).run Try.prog wr = .ok (.string ⟨(Pk.pre K N S len).toArray⟩) wr := own_str (base := base) (by have h := HOW.out; rw [hPl] at h ⊢; exact h)
      have HO2 := hide (hO.below HB.out)
      obtain ⟨bb, hbb⟩ : ∃ bb : ByteArray, bb = ⟨(Pk.pre K N S len).toArray⟩ := ⟨_, rfl⟩
      have hbd : bb.data.toList = (Pk.pre K N S len).take (Pk.pre K N S len).length := by rw [hbb, List.take_length]
      have hbbs : bb.size ≤ 140737488351232 := by have : bb.data.toList.length = bb.size := rfl; rw [← this, hbd, List.take_length]; exact htot
      rw [← hbb] at hcv
      have HRD : Hid (∀ w2 : World, Ths w2 ad len ab ao K N S → Calls Try.prog 20 #[.string bb, .slice ad len cap] w2 fun e w' => e = .returned (.tuple #[.int .i64 0, .bool true]) ∧ Below w2.heap.size w2 w') := fun w2 h2 => by
        refine (reads_any bb hbbs ad ab ao len cap _ K N S w2 h2 hbd (Nat.le_refl _)).mono ?_
        rintro e w' ⟨⟨f, ok, rfl, h1, _⟩, hb⟩
        obtain ⟨rfl, rfl⟩ := h1 rfl
        exact ⟨rfl, hb⟩
      have HRC : Hid (∀ (k : Nat) (w2 : World), k < P → Ths w2 ad len ab ao K N S → Calls Try.prog 20 #[.string ⟨((Pk.pre K N S len).take k).toArray⟩, .slice ad len cap] w2 fun e w' => (∃ ok : Bool, e = .returned (.tuple #[.int .i64 20, .bool ok])) ∧ Below w2.heap.size w2 w') := fun k w2 hk h2 => by
        have hbd2 : (⟨((Pk.pre K N S len).take k).toArray⟩ : ByteArray).data.toList = (Pk.pre K N S len).take k := rfl
        refine (reads_any ⟨((Pk.pre K N S len).take k).toArray⟩ (by show ((Pk.pre K N S len).take k).toArray.size ≤ _; simp; omega) ad ab ao len cap k K N S w2 h2 hbd2 (by omega)).mono ?_
        rintro e w' ⟨⟨f, ok, rfl, _, h1⟩, hb⟩
        have := h1 (by omega)
        subst this
        exact ⟨⟨ok, rfl⟩, hb⟩
      clear hbb hbd hbbs hil2 hO hPl
      go_wp2_with fail
      refine (HRD.out wr HO2.out).mono ?_
      rintro e w7 ⟨rfl, hb7⟩
      have HB7 : Hid (Below w.heap.size w w7) := below_tr HB.out hb7
      have HO7 : Hid (Ths w7 ad len ab ao K N S) := HO2.out.below hb7
      have HW7 : Hid (w7.ownsRow base 5 1 (.slice (some ⟨g, 0, none⟩) P c) P (bc (Pk.pre K N S len))) := HOW.out.kept (grown_below hb7 none) (.inr (by simp [Value.ownBlock]))
      clear HB HO2 hb7 HRD HOW hcv
      by_cases hc0 : cut < 0
      · have b1 : decide (cut < 0) = true := by simp; omega
        go_wp2_with fail
        go_ret
        exact ⟨rfl, HB7.out⟩
      · obtain ⟨k, rfl⟩ := Int.eq_ofNat_of_zero_le (show 0 ≤ cut by omega)
        have b1 : decide ((k : Int) < 0) = false := by simp
        by_cases hck : k < P
        · have b2 : decide ((P : Int) ≤ (k : Int)) = false := by simp; omega
          have hPc : k ≤ c := by
            rcases HW7.out.2 with ⟨h1, _⟩ | ⟨g', cap', cur, h1, _, _, h4, _⟩
            · cases h1
            · injection h1 with _ _ e3
              omega
          have hcv2 : (convert 43 9 (.slice (some ⟨g, 0, none⟩) k c)).run Try.prog w7 = .ok (.string ⟨((Pk.pre K N S len).take k).toArray⟩) w7 := by
            have h := own_str (own_cut HW7.out HP.out.symm (Nat.le_of_lt hck))
            exact h
          generalize hcs : (⟨((Pk.pre K N S len).take k).toArray⟩ : ByteArray) = cs at *
          have HR2 : Hid (Calls Try.prog 20 #[.string cs, .slice ad len cap] w7 fun e w' => (∃ ok : Bool, e = .returned (.tuple #[.int .i64 20, .bool ok])) ∧ Below w7.heap.size w7 w') := by
            have h := HRC.out k w7 hck HO7.out
            rw [hcs] at h
            exact h
          clear HRC hcs HO7 HW7
          go_wp2_with fail
          refine HR2.out.mono ?_
          rintro e w8 ⟨⟨ok, rfl⟩, hb8⟩
          go_wp2_with fail
          go_ret
          exact ⟨by simp, below_tr HB7.out hb8⟩
        · have b2 : decide ((P : Int) ≤ (k : Int)) = true := by simp; omega
          go_wp2_with fail
          go_ret
          exact ⟨rfl, HB7.out⟩
end Go.Proofs.Ytajbkgahgnkodaa
