import Derived.Test.YtnhibcadenmglaaDkYa
import Derived.Test.YtnhibcadenmglaaDkQ
import Derived.Deep.DeepCutAuto
namespace Go.Proofs.Ytnhibcadenmglaa
open Go.RowKit

set_option maxHeartbeats 1000000 in
set_option maxRecDepth 8000 in
theorem diskPlays_walk {w : World} {ad ad2 : Option Addr} {ab ao cap ab2 ao2 cap2 : Nat} {l : List ByteArray} {R : List Wr} {n m : Int} (h : Rs w ad ab ao l) (h2 : Rw w ad2 ab2 ao2 R) (hl : l.length ≤ 8796093021952) (hR : R.length ≤ 5864062014634) (hn : -9223372036854775808 ≤ n ∧ n ≤ 9223372036854775807) (_ : -9223372036854775808 ≤ m ∧ m ≤ 9223372036854775807) :
    Calls Try.prog 6 #[.agg #[.slice ad l.length cap, .slice ad2 R.length cap2, .int .i64 n, .int .i64 m]] w fun e w' => e = .returned (.bool true) ∧ Below w.heap.size w w' := by
  obtain ⟨W0, hW0⟩ : ∃ W0, w.alloc (.cells #[.slice ad l.length cap, .slice ad2 R.length cap2, .int .i64 n, .int .i64 m] 42) = W0 := ⟨_, rfl⟩
  have hb0 : Below w.heap.size w W0 := by rw [← hW0]; exact (Below.refl _ w).alloc (Nat.le_refl _) _
  have hsz0 : W0.heap.size = w.heap.size + 1 := by rw [← hW0]; exact World.size_alloc _ _
  have hblk : W0.heap[w.heap.size]? = some (.cells #[.slice ad l.length cap, .slice ad2 R.length cap2, .int .i64 n, .int .i64 m] 42 (0, 0)) := by rw [← hW0]; exact heap_alloc_new w _
  have c0 : W0.cell? ⟨w.heap.size, 0, none⟩ = some (.slice ad l.length cap) := by simp [World.cell?, hblk]
  have c1 : W0.cell? ⟨w.heap.size, 1, none⟩ = some (.slice ad2 R.length cap2) := by simp [World.cell?, hblk]
  have c2 : W0.cell? ⟨w.heap.size, 2, none⟩ = some (.int .i64 n) := by simp [World.cell?, hblk]
  have c3 : W0.cell? ⟨w.heap.size, 3, none⟩ = some (.int .i64 m) := by simp [World.cell?, hblk]
  have HT : Hid (∀ k, Rs (W0.drewN k) ad ab ao l ∧ Rw (W0.drewN k) ad2 ab2 ao2 R ∧ Below w.heap.size w (W0.drewN k)) := fun k => ⟨(h.below hb0).keep (fun _ => rfl), (h2.below hb0).keep (fun _ => rfl), hb0.os, hb0.tape, hb0.output, hb0.size, hb0.block⟩
  have HH := hide h
  have HH2 := hide h2
  clear hblk hsz0 hb0 h h2
  by_cases hE : loadE l = 0
  · have HE := hide hE
    obtain ⟨h8, hp, hq⟩ := loadE_ok hE
    clear hE h8
    go_enter Try.func6, Try.ntmps6
    go_wp2_with fail
    clear hW0
    go_quiet (fail)
    obtain ⟨hs1, hw1, hb1⟩ := HT.out nq
    generalize W0.drewN nq = W1 at *
    have HS1 := hide hs1
    have HW1 := hide hw1
    have HB1 := hide hb1
    have HL1 := hide (load_yes (cap := cap) hs1 HE.out)
    clear hs1 hw1 hb1 HT c0 c1 c2 c3
    go_wp2_with fail
    refine HL1.out.mono ?_
    rintro e w2 ⟨ba, Fa, rfl, hD2, hb2⟩
    have HD2 := hide hD2
    have HB2 := hide (HB1.out.trans (below_up hb2 HB1.out.size))
    have HS2 := hide (HS1.out.below hb2)
    have HW2 := hide (HW1.out.below hb2)
    have HL2 := hide (load_yes (cap := cap) HS2.out HE.out)
    clear hD2 hb2 HL1 HS1 HW1
    go_wp2_with fail
    refine HL2.out.mono ?_
    rintro e w3 ⟨bb, Fb, rfl, hD3, hb3⟩
    have HT3 : Hid (Two w.heap.size w3 ba bb Fa Fb (fresh l) (fresh l)) := ⟨(HD2.out.below hb3).lower HB1.out.size, hD3.lower HB2.out.size, fun k hk hx => absurd (HD2.out.ftlt k hk).2 (by have := (hD3.ftlt k hx).1; omega)⟩
    have HB3 := hide (HB2.out.trans (below_up hb3 HB2.out.size))
    have HS3 := hide (HS2.out.below hb3)
    have HW3 := hide (HW2.out.below hb3)
    clear hD3 hb3 HL2 HD2 HB2 HS2 HW2 HB1
    by_cases g1 : n < 1
    · have d1 : decide (n < 1) = true := by simpa using g1
      have HAR := hide (arm_any HT3.out.hd (-1) 0 (by decide))
      rw [show ((fresh l).arm (-1) 0).1 = 1 from rfl, show ((fresh l).arm (-1) 0).2 = fresh l from rfl] at HAR
      go_wp2_with (first
        | (go_at_call 19; refine HAR.out.mono ?_; rintro e w4 ⟨rfl, hD4, hM4⟩; have HB4 := hide (HB3.out.trans (hM4.below HB3.out.size HT3.out.hd.ftlow)); clear hD4 hM4)
        | (go_at_call 12; refine (fixed_true w4).mono ?_; rintro e w5 ⟨rfl, hb5⟩; have HB5 := hide (HB4.out.trans (below_up hb5 HB4.out.size)); clear hb5))
      go_ret
      exact ⟨rfl, HB5.out⟩
    · have d1 : decide (n < 1) = false := by simpa using g1
      obtain ⟨p, rfl⟩ : ∃ p : Nat, n = (p : Int) + 1 := ⟨(n - 1).toNat, by omega⟩
      clear d1 g1
      have d1 : decide ((p : Int) + 1 < 1) = false := by simp; omega
      by_cases g2 : (R.length : Int) < (p : Int) + 1
      · have d2 : decide ((R.length : Int) < (p : Int) + 1) = true := by simpa using g2
        have HAR := hide (arm_any HT3.out.hd (-1) 0 (by decide))
        rw [show ((fresh l).arm (-1) 0).1 = 1 from rfl, show ((fresh l).arm (-1) 0).2 = fresh l from rfl] at HAR
        go_wp2_with (first
          | (go_at_call 19; refine HAR.out.mono ?_; rintro e w4 ⟨rfl, hD4, hM4⟩; have HB4 := hide (HB3.out.trans (hM4.below HB3.out.size HT3.out.hd.ftlow)); clear hD4 hM4)
          | (go_at_call 12; refine (fixed_true w4).mono ?_; rintro e w5 ⟨rfl, hb5⟩; have HB5 := hide (HB4.out.trans (below_up hb5 HB4.out.size)); clear hb5))
        go_ret
        exact ⟨rfl, HB5.out⟩
      · have d2 : decide ((R.length : Int) < (p : Int) + 1) = false := by simpa using g2
        by_cases g3 : m < 0
        · have d3 : decide (m < 0) = true := by simpa using g3
          have HAR := hide (arm_any HT3.out.hd (-1) 0 (by decide))
          rw [show ((fresh l).arm (-1) 0).1 = 1 from rfl, show ((fresh l).arm (-1) 0).2 = fresh l from rfl] at HAR
          go_wp2_with (first
            | (go_at_call 19; refine HAR.out.mono ?_; rintro e w4 ⟨rfl, hD4, hM4⟩; have HB4 := hide (HB3.out.trans (hM4.below HB3.out.size HT3.out.hd.ftlow)); clear hD4 hM4)
            | (go_at_call 12; refine (fixed_true w4).mono ?_; rintro e w5 ⟨rfl, hb5⟩; have HB5 := hide (HB4.out.trans (below_up hb5 HB4.out.size)); clear hb5))
          go_ret
          exact ⟨rfl, HB5.out⟩
        · have d3 : decide (m < 0) = false := by simpa using g3
          by_cases g4 : 128 < m
          · have d4 : decide (128 < m) = true := by simpa using g4
            have HAR := hide (arm_any HT3.out.hd (-1) 0 (by decide))
            rw [show ((fresh l).arm (-1) 0).1 = 1 from rfl, show ((fresh l).arm (-1) 0).2 = fresh l from rfl] at HAR
            go_wp2_with (first
              | (go_at_call 19; refine HAR.out.mono ?_; rintro e w4 ⟨rfl, hD4, hM4⟩; have HB4 := hide (HB3.out.trans (hM4.below HB3.out.size HT3.out.hd.ftlow)); clear hD4 hM4)
              | (go_at_call 12; refine (fixed_true w4).mono ?_; rintro e w5 ⟨rfl, hb5⟩; have HB5 := hide (HB4.out.trans (below_up hb5 HB4.out.size)); clear hb5))
            go_ret
            exact ⟨rfl, HB5.out⟩
          · have d4 : decide (128 < m) = false := by simpa using g4
            obtain ⟨q, rfl⟩ : ∃ q : Nat, m = (q : Int) := ⟨m.toNat, by omega⟩
            have hq128 : q ≤ 128 := by omega
            have hpR : p + 1 ≤ R.length := by omega
            have HA := hide (arm_any HT3.out.hd ((p : Int) + 1) (q : Int) hn.2)
            have ea : (fresh l).arm ((p : Int) + 1) (q : Int) = (0, { fresh l with left := (p : Int) + 1, byt := (q : Int) }) := by
              unfold DS.arm
              rw [if_neg (by simp [fresh]), if_neg (by omega)]
            rw [ea] at HA
            have HP0 : Hid (Pl l (p + 1) q { fresh l with left := (p : Int) + 1, byt := (q : Int) } (fresh l)) := Pl.first HE.out (by omega) (by omega) hq128
            have HR0 : Hid ((fresh l).R.length ≤ 0 ∧ ({ fresh l with left := (p : Int) + 1, byt := (q : Int) } : DS).R.length ≤ 0) := ⟨Nat.le_refl 0, Nat.le_refl 0⟩
            generalize ({ fresh l with left := (p : Int) + 1, byt := (q : Int) } : DS) = A0 at *
            clear ea g3 g4
            go_wp2_with fail
            refine HA.out.mono ?_
            rintro e w4 ⟨rfl, hD4, hM4⟩
            have HT4 : Hid (Two w.heap.size w4 ba bb Fa Fb A0 (fresh l)) := HT3.out.stepd hD4 hM4
            have HB4 := hide (HB3.out.trans (hM4.below HB3.out.size HT3.out.hd.ftlow))
            clear hD4 hM4 HA HT3 HB3 HS3 HW3
            go_wp2_with fail
            go_loopw [11] (fun u wr => ∃ (i : Nat) (Ga Gb : Nat → Prop) (A D : DS), u = .int .i64 (i : Int) ∧ i ≤ R.length ∧ Hid (Pl l (p + 1) q A D) ∧ Hid (D.R.length ≤ i ∧ A.R.length ≤ i) ∧ Hid (Two w.heap.size wr ba bb Ga Gb A D) ∧ Hid (Below w.heap.size w wr)) (fun u _ => (R.length - (intOf u).toNat))
            case atStart => exact ⟨0, Fa, Fb, A0, fresh l, rfl, Nat.zero_le _, HP0, HR0, HT4, HB4⟩
            case round =>
              clear HP0 HR0 HT4 HB4
              obtain ⟨i, Ga, Gb, A, D, rfl, hi, HP, HRl, HT, HB⟩ := hrel
              by_cases hil : i < R.length
              · have O := HH2.out.below HB.out
                have ea := O.at_ (by omega)
                have c0 := O.sec i hil
                have c1 := O.data i hil
                have KO : Hid (∀ w2, Below w.heap.size w w2 → w2.cell? ⟨ab2, ao2 + i * 2, none⟩ = some (.int .i64 R[i].sec) ∧ w2.cell? ⟨ab2, ao2 + i * 2 + 1, none⟩ = some (.string R[i].data)) := fun w2 hb => ⟨(HH2.out.below hb).sec i hil, (HH2.out.below hb).data i hil⟩
                generalize R[i] = r at *
                obtain ⟨x, y⟩ := r
                simp only at c0 c1 KO
                subst ea
                obtain ⟨hXY, hP2⟩ := HP.out.step (by omega) x y
                have HWa := hide (write_any HT.out.drew.hd x y (by have := HRl.out.2; omega))
                have HWb : Hid (∀ (w5 : World) (G : Nat → Prop) (A' : DS), Two w.heap.size w5 ba bb G Gb A' D → _) := fun w5 G A' (hT : Two w.heap.size w5 ba bb G Gb A' D) => write_any hT.drew.hx x y (by have := HRl.out.1; omega)
                have HR2 : Hid ((D.write x y).2.R.length ≤ i + 1 ∧ (A.write x y).2.R.length ≤ i + 1) := ⟨by have := D.write_len x y; have := HRl.out.1; omega, by have := A.write_len x y; have := HRl.out.2; omega⟩
                have HP2 := hide hP2
                clear O hP2 HP HRl
                generalize (A.write x y).1 = X at *
                generalize (A.write x y).2 = A2 at *
                generalize (D.write x y).1 = Y at *
                generalize (D.write x y).2 = D2 at *
                go_wp2_with fail
                go_region_held3 (fun w' => w'.cell? ⟨ab2, ao2 + i * 2, none⟩ = some (.int .i64 x) ∧ w'.cell? ⟨ab2, ao2 + i * 2 + 1, none⟩ = some (.string y)) (go_keep) (first
                  | (go_at_call 20; refine HWa.out.mono ?_; rintro e w5 ⟨rfl, G5, hD5, hM5⟩; have HT5 := hide (HT.out.drew.stepd hD5 hM5); have HB5 := hide (HB.out.trans (below_drew (hM5.below HB.out.size HT.out.hd.ftlow))); obtain ⟨k0, k1⟩ := KO.out w5 HB5.out; clear hD5 hM5))
                clear HWa c0 c1
                have HWb5 := hide (HWb.out w5 G5 A2 HT5.out)
                clear HWb
                go_wp2_with fail
                go_region_held3 (fun w' => w'.cell? ⟨ab2, ao2 + i * 2, none⟩ = some (.int .i64 x) ∧ w'.cell? ⟨ab2, ao2 + i * 2 + 1, none⟩ = some (.string y)) (go_keep) (first
                  | (go_at_call 20; refine HWb5.out.mono ?_; rintro e w6 ⟨rfl, G6, hD6, hM6⟩; have HT6 := hide (HT5.out.drew.stepx hD6 hM6); have HB6 := hide (HB5.out.trans (below_drew (hM6.below HB5.out.size HT5.out.hx.ftlow))); obtain ⟨k2, k3⟩ := KO.out w6 HB6.out; clear hD6 hM6))
                clear k0 k1 k2 k3 HWb5 HT HB HT5 HB5
                have hRb := HR2.out.1
                have HRaw := hide (raw_cap HT6.out.hx (by omega))
                have HXY := hide hXY
                clear hXY
                by_cases hxy : X = Y
                · have d5 : (X != Y) = false := by simpa using hxy
                  clear hxy
                  go_wp2_with fail
                  refine HRaw.out.mono ?_
                  rintro e w7 ⟨ad7, cap7, ab7, rfl, hr7, hc7, hm7, hb7⟩
                  have HR7 := hide hr7
                  have HT7 := hide (HT6.out.below hb7)
                  have HB7 := hide (HB6.out.trans (below_up hb7 HB6.out.size))
                  have HRaw7 := hide (raw_cap HT7.out.hx (by omega))
                  clear hr7 hb7
                  go_wp2_with fail
                  refine HRaw7.out.mono ?_
                  rintro e w8 ⟨ad8, cap8, ab8, rfl, hr8, _, _, hb8⟩
                  have HT8 := hide (HT7.out.below hb8)
                  have HB8 := hide (HB7.out.trans (below_up hb8 HB7.out.size))
                  have hcut := cut_yes (cap := cap) (b := 0) (HH.out.below HB8.out) (HR7.out.below hb8) hl (by omega) hc7 hm7 (HP2.out.cutAll HE.out)
                  rw [cutS_all, ← HP2.out.lay, show ((0 : Nat) : Int) = 0 from rfl] at hcut
                  have HCUT := hide hcut
                  clear hr8 hb8 hcut HT7 HB7 HRaw7
                  go_wp2_with fail
                  refine HCUT.out.mono ?_
                  rintro e w9 ⟨ad9, cap9, ab9, rfl, hr9, _, hb9⟩
                  have HR9 := hide hr9
                  have HT9 := hide (HT8.out.below hb9)
                  have HB9 := hide (HB8.out.trans (below_up hb9 HB8.out.size))
                  have HSec := hide (sectors_len HT9.out.hx rfl HP2.out.len)
                  clear hr9 hb9 HCUT HT8 HB8
                  go_wp2_with fail
                  refine HSec.out.mono ?_
                  rintro e w10 ⟨ad10, cap10, ab10, rfl, hr10, _, hb10⟩
                  have HSm := hide (same_len (cap := cap9) (cap' := cap10) (HR9.out.below hb10) hr10 HP2.out.len hl)
                  have HT10 := hide (HT9.out.below hb10)
                  have HB10 := hide (HB9.out.trans (below_up hb10 HB9.out.size))
                  clear hr10 hb10 HSec HT9 HB9 HR9
                  go_wp2_with (go_at_call 15; refine HSm.out.mono ?_; rintro e w11 ⟨rfl, hb11⟩; have HT11 := hide (HT10.out.below hb11); have HB11 := hide (HB10.out.trans (below_up hb11 HB10.out.size)); clear hb11)
                  exact ⟨⟨i + 1, G5, G6, A2, D2, by go_num, by omega, HP2, HR2, HT11, HB11⟩, by simp [intOf]; omega⟩
                · have d5 : (X != Y) = true := by simpa using hxy
                  have d6 : X = 2 := HXY.out.resolve_left hxy
                  clear hxy
                  subst d6
                  go_wp2_with fail
                  refine HRaw.out.mono ?_
                  rintro e w7 ⟨ad7, cap7, ab7, rfl, hr7, hc7, hm7, hb7⟩
                  have HR7 := hide hr7
                  have HT7 := hide (HT6.out.below hb7)
                  have HB7 := hide (HB6.out.trans (below_up hb7 HB6.out.size))
                  have HRaw7 := hide (raw_cap HT7.out.hx (by omega))
                  clear hr7 hb7
                  go_wp2_with fail
                  refine HRaw7.out.mono ?_
                  rintro e w8 ⟨ad8, cap8, ab8, rfl, hr8, _, _, hb8⟩
                  have HT8 := hide (HT7.out.below hb8)
                  have HB8 := hide (HB7.out.trans (below_up hb8 HB7.out.size))
                  have hcut := cut_yes (cap := cap) (b := 0) (HH.out.below HB8.out) (HR7.out.below hb8) hl (by omega) hc7 hm7 (HP2.out.cutAll HE.out)
                  rw [cutS_all, ← HP2.out.lay, show ((0 : Nat) : Int) = 0 from rfl] at hcut
                  have HCUT := hide hcut
                  clear hr8 hb8 hcut HT7 HB7 HRaw7
                  go_wp2_with fail
                  refine HCUT.out.mono ?_
                  rintro e w9 ⟨ad9, cap9, ab9, rfl, hr9, _, hb9⟩
                  have HR9 := hide hr9
                  have HT9 := hide (HT8.out.below hb9)
                  have HB9 := hide (HB8.out.trans (below_up hb9 HB8.out.size))
                  have HSec := hide (sectors_len HT9.out.hx rfl HP2.out.len)
                  clear hr9 hb9 HCUT HT8 HB8
                  go_wp2_with fail
                  refine HSec.out.mono ?_
                  rintro e w10 ⟨ad10, cap10, ab10, rfl, hr10, _, hb10⟩
                  have HSm := hide (same_len (cap := cap9) (cap' := cap10) (HR9.out.below hb10) hr10 HP2.out.len hl)
                  have HT10 := hide (HT9.out.below hb10)
                  have HB10 := hide (HB9.out.trans (below_up hb10 HB9.out.size))
                  clear hr10 hb10 HSec HT9 HB9 HR9
                  go_wp2_with (go_at_call 15; refine HSm.out.mono ?_; rintro e w11 ⟨rfl, hb11⟩; have HT11 := hide (HT10.out.below hb11); have HB11 := hide (HB10.out.trans (below_up hb11 HB10.out.size)); clear hb11)
                  exact ⟨⟨i + 1, G5, G6, A2, D2, by go_num, by omega, HP2, HR2, HT11, HB11⟩, by simp [intOf]; omega⟩
              · have ei : R.length = i := by omega
                subst ei
                clear hi hil
                have hRb := HRl.out.1
                have hRa := HRl.out.2
                have HRaw := hide (raw_cap HT.out.hx (by omega))
                go_wp2_with fail
                refine HRaw.out.mono ?_
                rintro e w5 ⟨ad5, cap5, ab5, rfl, hr5, hc5, hm5, hb5⟩
                have HR5 := hide hr5
                have HT5 := hide (HT.out.below hb5)
                have HB5 := hide (HB.out.trans (below_up hb5 HB.out.size))
                clear hr5 hb5 HRaw HT HB
                rcases HP.out.or with ⟨o1, o2, o3, o4, o5, o6⟩ | ⟨o1, o2, o3, o4⟩
                · have d7 : decide ((D.R.length : Int) < (p : Int) + 1) = true := by simp; omega
                  have HDD := hide (dead_any HT5.out.hd)
                  rw [o2] at HDD
                  have HSa := hide (sectors_len HT5.out.hd o3 HP.out.len)
                  clear o2 o3 o4 o5 o6
                  go_wp2_with (first
                    | (go_at_call 23; refine HDD.out.mono ?_; rintro e w6 ⟨rfl, e1⟩; have e1' := e1.symm; subst e1'; clear e1)
                    | fail)
                  refine HSa.out.mono ?_
                  rintro e w6 ⟨ad6, cap6, ab6, rfl, hr6, _, hb6⟩
                  have HR6 := hide hr6
                  have HT6 := hide (HT5.out.below hb6)
                  have HB6 := hide (HB5.out.trans (below_up hb6 HB5.out.size))
                  have HSb := hide (sectors_len HT6.out.hx rfl HP.out.len)
                  clear hr6 hb6 HSa HDD
                  go_wp2_with fail
                  refine HSb.out.mono ?_
                  rintro e w7 ⟨ad7, cap7, ab7, rfl, hr7, _, hb7⟩
                  have HSm := hide (same_len (cap := cap6) (cap' := cap7) (HR6.out.below hb7) hr7 HP.out.len hl)
                  have HB7 := hide (HB6.out.trans (below_up hb7 HB6.out.size))
                  clear hr7 hb7 HSb
                  go_wp2_with (first
                    | (go_at_call 15; refine HSm.out.mono ?_; rintro e w8 ⟨rfl, hb8⟩; have HB8 := hide (HB7.out.trans (below_up hb8 HB7.out.size)); clear hb8)
                    | (go_at_call 12; refine (fixed_true w8).mono ?_; rintro e w9 ⟨rfl, hb9⟩; have HB9 := hide (HB8.out.trans (below_up hb9 HB8.out.size)); clear hb9))
                  go_ret
                  exact ⟨rfl, HB9.out⟩
                · have d7 : decide ((D.R.length : Int) < (p : Int) + 1) = false := by simp; omega
                  have hcut := cut_yes (cap := cap) (n := p) (b := q) (HH.out.below HB5.out) HR5.out hl (by omega) hc5 hm5 (HP.out.cutN HE.out (by omega) hq128 o1)
                  have HCUT := hide hcut
                  have HO2 := hide o2
                  have HO3 : Hid (A.S = cutS l D.R p q) := o3
                  have HO4 : Hid (A.R.length = p) := o4
                  clear hcut o2 o3 o4
                  go_wp2_with fail
                  refine HCUT.out.mono ?_
                  rintro e w6 ⟨ad6, cap6, ab6, rfl, hr6, _, hb6⟩
                  have HR6 := hide hr6
                  have HT6 := hide (HT5.out.below hb6)
                  have HB6 := hide (HB5.out.trans (below_up hb6 HB5.out.size))
                  have HDD := hide (dead_any HT6.out.hd)
                  rw [HO2.out] at HDD
                  have HSa := hide (sectors_len HT6.out.hd HO3.out (cutS_len _ _ _ _))
                  clear hr6 hb6 HCUT
                  go_wp2_with (first
                    | (go_at_call 23; refine HDD.out.mono ?_; rintro e w7 ⟨rfl, e1⟩; have e1' := e1.symm; subst e1'; clear e1)
                    | fail)
                  refine HSa.out.mono ?_
                  rintro e w7 ⟨ad7, cap7, ab7, rfl, hr7, _, hb7⟩
                  have HSm := hide (same_len (cap := cap7) (cap' := cap6) hr7 (HR6.out.below hb7) (cutS_len _ _ _ _) hl)
                  have HT7 := hide (HT6.out.below hb7)
                  have HB7 := hide (HB6.out.trans (below_up hb7 HB6.out.size))
                  clear hr7 hb7 HSa HDD
                  go_wp2_with fail
                  refine HSm.out.mono ?_
                  rintro e w8 ⟨rfl, hb8⟩
                  have HT8 := hide (HT7.out.below hb8)
                  have HB8 := hide (HB7.out.trans (below_up hb8 HB7.out.size))
                  have HRa := hide (raw_len HT8.out.hd rfl HO4.out (by omega))
                  clear hb8 HSm
                  go_wp2_with (first
                    | (go_at_call 21; refine HRa.out.mono ?_; rintro e w9 ⟨ad9, cap9, ab9, rfl, _, _, hb9⟩; have HB9 := hide (HB8.out.trans (below_up hb9 HB8.out.size)); clear hb9)
                    | (go_at_call 12; refine (fixed_true w9).mono ?_; rintro e w10 ⟨rfl, hb10⟩; have HB10 := hide (HB9.out.trans (below_up hb10 HB9.out.size)); clear hb10))
                  go_ret
                  exact ⟨rfl, HB10.out⟩
  · have HN : Hid (∀ k, _) := fun k => load_no (cap := cap) (HT.out k).1 hE hl
    generalize loadE l = E at *
    have h10 : (E != 0) = true := by simpa using hE
    have h11 : (E == 0) = false := by simpa using hE
    go_enter Try.func6, Try.ntmps6
    go_wp2_with fail
    clear hW0
    go_quiet (fail)
    obtain ⟨_, _, hb1⟩ := HT.out nq
    have HN1 := hide (HN.out nq)
    generalize W0.drewN nq = W1 at *
    have HB1 := hide hb1
    clear hb1 HT HN c0 c1 c2 c3
    go_wp2_with (first
      | (go_at_call 13; refine HN1.out.mono ?_; rintro e w2 ⟨rfl, e1⟩; have e1' := e1.symm; subst e1'; clear e1)
      | (go_at_call 12; refine (fixed_true W1).mono ?_; rintro e w3 ⟨rfl, hb3⟩; have HB3 := hide (HB1.out.trans (below_up hb3 HB1.out.size)); clear hb3))
    go_ret
    exact ⟨rfl, HB3.out⟩
end Go.Proofs.Ytnhibcadenmglaa
