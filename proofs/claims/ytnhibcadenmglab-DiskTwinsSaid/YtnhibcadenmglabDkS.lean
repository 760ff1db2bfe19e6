import Derived.Test.YtnhibcadenmglabDkQ
namespace Go.Proofs.Ytnhibcadenmglab
open Go.RowKit

/-- three disks, and what the first had -/
structure Tw (B : Nat) (w : World) (b xb yb : Nat) (F Fx Fy : Nat → Prop) (d x y : DS) (ad : Option Addr) (ab : Nat) (S : List ByteArray) : Prop where
  hd : Dk B w b F d
  hx : Dk B w xb Fx x
  hy : Dk B w yb Fy y
  was : Rs w ad ab 0 S
  pos : 0 < S.length
  dx : ∀ k, F k → ¬ Fx k
  dy : ∀ k, F k → ¬ Fy k
  xy : ∀ k, Fx k → ¬ Fy k
  wd : ¬ F ab
  wx : ¬ Fx ab
section
variable {B : Nat} {w w' : World} {b xb yb : Nat} {F Fx Fy : Nat → Prop} {d x y : DS} {ad : Option Addr} {ab : Nat} {S : List ByteArray}
theorem Tw.below (h : Tw B w b xb yb F Fx Fy d x y ad ab S) (hb : Below w.heap.size w w') : Tw B w' b xb yb F Fx Fy d x y ad ab S :=
  ⟨h.hd.below hb, h.hx.below hb, h.hy.below hb, h.was.below hb, h.pos, h.dx, h.dy, h.xy, h.wd, h.wx⟩
theorem Tw.stepd (h : Tw B w b xb yb F Fx Fy d x y ad ab S) {F' : Nat → Prop} {d' : DS} (hD : Dk B w' b F' d') (hm : Mv F F' w w') : Tw B w' b xb yb F' Fx Fy d' x y ad ab S := by
  have hlt := h.was.lt h.pos
  refine ⟨hD, h.hx.mv hm (fun k hk hf => h.dx k hf hk), h.hy.mv hm (fun k hk hf => h.dy k hf hk), h.was.mv hm (fun _ => h.wd), h.pos, fun k hk hf => ?_, fun k hk hf => ?_, h.xy, fun hf => ?_, h.wx⟩
  · rcases hm.foot k hk with h1 | h1
    · exact h.dx k h1 hf
    · exact absurd (h.hx.ftlt k hf).2 (by omega)
  · rcases hm.foot k hk with h1 | h1
    · exact h.dy k h1 hf
    · exact absurd (h.hy.ftlt k hf).2 (by omega)
  · rcases hm.foot ab hf with h1 | h1
    · exact h.wd h1
    · omega
theorem Tw.stepx (h : Tw B w b xb yb F Fx Fy d x y ad ab S) {F' : Nat → Prop} {d' : DS} (hD : Dk B w' xb F' d') (hm : Mv Fx F' w w') : Tw B w' b xb yb F F' Fy d d' y ad ab S := by
  have hlt := h.was.lt h.pos
  refine ⟨h.hd.mv hm (fun k hk hf => h.dx k hk hf), hD, h.hy.mv hm (fun k hk hf => h.xy k hf hk), h.was.mv hm (fun _ => h.wx), h.pos, fun k hk hf => ?_, h.dy, fun k hk hf => ?_, h.wd, fun hf => ?_⟩
  · rcases hm.foot k hf with h1 | h1
    · exact h.dx k hk h1
    · exact absurd (h.hd.ftlt k hk).2 (by omega)
  · rcases hm.foot k hk with h1 | h1
    · exact h.xy k h1 hf
    · exact absurd (h.hy.ftlt k hf).2 (by omega)
  · rcases hm.foot ab hf with h1 | h1
    · exact h.wx h1
    · omega
end
theorem DS.write_few (d : DS) (k : Int) (x : ByteArray) {N : Nat} (h : d.R.length ≤ N) : (d.write k x).2.R.length ≤ N + 1 := by have := d.write_len k x; omega

set_option maxHeartbeats 4000000 in
set_option maxRecDepth 8000 in
theorem diskTwins_walk {w : World} {ad ad2 : Option Addr} {ab ao cap ab2 ao2 cap2 : Nat} {l : List ByteArray} {R : List Wr} {n m : Int} (h : Rs w ad ab ao l) (h2 : Rw w ad2 ab2 ao2 R) (hl : l.length ≤ 8796093021952) (hR : R.length ≤ 5864062014634) (_ : -9223372036854775808 ≤ n ∧ n ≤ 9223372036854775807) (_ : -9223372036854775808 ≤ m ∧ m ≤ 9223372036854775807) (p q : Wr) :
    Calls Try.prog 4 #[.agg #[.slice ad l.length cap, .slice ad2 R.length cap2, .int .i64 n, .int .i64 m], .agg #[.int .i64 p.sec, .string p.data], .agg #[.int .i64 q.sec, .string q.data]] w fun e w' => e = .returned (.bool true) ∧ Below w.heap.size w w' := by
  obtain ⟨x0, x1⟩ := p
  obtain ⟨y0, y1⟩ := q
  simp only
  obtain ⟨o0, ho0⟩ : ∃ o, Obj.cells #[.slice ad l.length cap, .slice ad2 R.length cap2, .int .i64 n, .int .i64 m] 25 (0, 0) = o := ⟨_, rfl⟩
  obtain ⟨o1, ho1⟩ : ∃ o, Obj.cells #[.int .i64 x0, .string x1] 43 (0, 0) = o := ⟨_, rfl⟩
  obtain ⟨o2, ho2⟩ : ∃ o, Obj.cells #[.int .i64 y0, .string y1] 43 (0, 0) = o := ⟨_, rfl⟩
  obtain ⟨W0, hW0⟩ : ∃ W0, ((w.alloc o0).alloc o1).alloc o2 = W0 := ⟨_, rfl⟩
  have hb0 : Below w.heap.size w W0 := by rw [← hW0]; exact (((Below.refl _ w).alloc (Nat.le_refl _) _).alloc (by rw [World.size_alloc]; omega) _).alloc (by rw [World.size_alloc, World.size_alloc]; omega) _
  have hsz0 : W0.heap.size = w.heap.size + 3 := by rw [← hW0]; simp
  have hk0 : W0.heap[w.heap.size]? = some o0 := by rw [← hW0, Below.heap_alloc _ _ _ (by rw [World.size_alloc, World.size_alloc]; omega), Below.heap_alloc _ _ _ (by rw [World.size_alloc]; omega)]; exact heap_alloc_new w _
  have hk1 : W0.heap[w.heap.size + 1]? = some o1 := by rw [← hW0, Below.heap_alloc _ _ _ (by rw [World.size_alloc, World.size_alloc]; omega), show w.heap.size + 1 = (w.alloc o0).heap.size from (World.size_alloc _ _).symm]; exact heap_alloc_new _ _
  have hk2 : W0.heap[w.heap.size + 2]? = some o2 := by rw [← hW0, show w.heap.size + 2 = ((w.alloc o0).alloc o1).heap.size by rw [World.size_alloc, World.size_alloc]]; exact heap_alloc_new _ _
  have KC : Hid (∀ w1, Below W0.heap.size W0 w1 → w1.cell? ⟨w.heap.size, 0, none⟩ = some (.slice ad l.length cap) ∧ w1.cell? ⟨w.heap.size, 1, none⟩ = some (.slice ad2 R.length cap2)) := fun w1 hb => by
    have e := (hb.block _ (by omega)).trans hk0
    rw [← ho0] at e
    exact ⟨by simp [World.cell?, e], by simp [World.cell?, e]⟩
  have KP : Hid (∀ w1, Below W0.heap.size W0 w1 → w1.cell? ⟨w.heap.size + 1, 0, none⟩ = some (.int .i64 x0) ∧ w1.cell? ⟨w.heap.size + 1, 1, none⟩ = some (.string x1)) := fun w1 hb => by
    have e := (hb.block _ (by omega)).trans hk1
    rw [← ho1] at e
    exact ⟨by simp [World.cell?, e], by simp [World.cell?, e]⟩
  have KQ : Hid (∀ w1, Below W0.heap.size W0 w1 → w1.cell? ⟨w.heap.size + 1 + 1, 0, none⟩ = some (.int .i64 y0) ∧ w1.cell? ⟨w.heap.size + 1 + 1, 1, none⟩ = some (.string y1)) := fun w1 hb => by
    have e := (hb.block _ (by omega)).trans hk2
    rw [← ho2] at e
    exact ⟨by simp [World.cell?, e], by simp [World.cell?, e]⟩
  have H0 := h.below hb0
  have H20 := h2.below hb0
  have HB0 := hide hb0
  have HSZ := hide hsz0
  subst ho0; subst ho1; subst ho2
  by_cases hE : loadE l = 0
  · obtain ⟨h8, hp, hq⟩ := loadE_ok hE
    have HM := hide (made_yes (cap := cap) (cap2 := cap2) H0 H20 hE hR)
    obtain ⟨c0, c1⟩ := KC.out W0 (Below.refl _ _)
    have HCM := hide ((calm_fresh hE).wrs R)
    have HSL : Hid (((fresh l).wrs R).S.length = l.length) := (fresh l).wrs_slen R
    have HRL : Hid (((fresh l).wrs R).R.length ≤ R.length) := show _ ≤ _ by have := (fresh l).wrs_len R; simpa [fresh] using this
    generalize (fresh l).wrs R = D at *
    have HLD : Hid (loadE D.S = 0) := show _ = _ by
      unfold loadE
      rw [if_neg (by rw [HSL.out]; omega), if_pos (all8_of HCM.out.ok.s128)]
    clear h h2 hsz0 hk0 hk1 hk2 hE H0 H20
    go_enter Try.func4, Try.ntmps4
    go_wp2_with fail
    clear hW0
    refine HM.out.mono ?_
    rintro e w1 ⟨b, F, rfl, hD, hb1⟩
    have HD1 := hide hD
    have HB1 := hide hb1
    clear hD hb1 HM c0 c1
    have hRl := HRL.out
    have hSl := HSL.out
    go_wp2_with fail
    refine (sectors_rs HD1.out).mono ?_
    rintro e w2 ⟨ad3, cap3, ab3, rfl, hr2, hab, hb2⟩
    have HR2 := hide hr2
    have HD2 := hide (HD1.out.below hb2)
    have HB2 := hide (HB1.out.trans (below_up hb2 HB1.out.size))
    have HNF : Hid (¬ F ab3) := fun hf => absurd (HD1.out.ftlt _ hf).2 (by omega)
    clear hr2 hb2 HB1 hab
    have HCL := hide (clone_any HD2.out (by omega))
    go_wp2_with fail
    refine HCL.out.mono ?_
    rintro e w3 ⟨xb, Fx, rfl, hD3, hb3⟩
    have HX3 := hide hD3
    have HD3 := hide (HD2.out.below hb3)
    have HB3 := hide (HB2.out.trans (below_up hb3 HB2.out.size))
    have HR3 := hide (HR2.out.below hb3)
    have HLO := hide (load_yes (cap := cap3) HR3.out HLD.out)
    rw [HSL.out] at HLO
    have HDX : Hid (∀ k, F k → ¬ Fx k) := fun k hk hx => absurd (HD2.out.ftlt k hk).2 (by have := (HX3.out.ftlt k hx).1; omega)
    have HNX : Hid (¬ Fx ab3) := fun hx => absurd (HR2.out.lt HCM.out.ok.s0) (by have := (HX3.out.ftlt _ hx).1; omega)
    have hb3s := hb3.size
    have HB3S := hide hb3s
    clear hD3 hb3 hb3s HCL
    go_wp2_with fail
    refine HLO.out.mono ?_
    rintro e w4 ⟨yb, Fy, rfl, hD4, hb4⟩
    have HT4 : Hid (Tw W0.heap.size w4 b xb yb F Fx Fy D D (fresh D.S) ad3 ab3 D.S) :=
      ⟨HD3.out.below hb4, (HX3.out.below hb4).lower HB2.out.size, hD4.lower HB3.out.size, HR3.out.below hb4, HCM.out.ok.s0, HDX.out, fun k hk hy => absurd (HD3.out.ftlt k hk).2 (by have := (hD4.ftlt k hy).1; omega), fun k hk hy => absurd (HX3.out.ftlt k hk).2 (by have := (hD4.ftlt k hy).1; omega), HNF.out, HNX.out⟩
    have HB4 := hide (HB3.out.trans (below_up hb4 HB3.out.size))
    clear hD4 hb4 HLO HR2 HD2 HB2 HX3 HD3 HB3 HR3 HDX HNX HNF HB3S HD1 HLD HCM
    have hRe : D.R.length = D.R.length := rfl
    go_wp2_with fail
    refine (raw_len HT4.out.hx rfl rfl (by omega)).mono ?_
    rintro e w5 ⟨ad5, cap5, ab5, rfl, hr5, _, hb5⟩
    have HR5 := hide hr5
    have HT5 := hide (HT4.out.below hb5)
    have HB5 := hide (HB4.out.trans (below_up hb5 HB4.out.size))
    clear hr5 hb5 HT4 HB4
    go_wp2_with fail
    refine (raw_len HT5.out.hd rfl rfl (by omega)).mono ?_
    rintro e w6 ⟨ad6, cap6, ab6, rfl, hr6, _, hb6⟩
    have HSM := hide (sameRaw_len (cap := cap5) (cap' := cap6) (HR5.out.below hb6) hr6 rfl (by omega))
    have HT6 := hide (HT5.out.below hb6)
    have HB6 := hide (HB5.out.trans (below_up hb6 HB5.out.size))
    clear hr6 hb6 HT5 HB5 HR5
    go_wp2_with fail
    refine HSM.out.mono ?_
    rintro e w7 ⟨rfl, hb7⟩
    have HT7 := hide (HT6.out.below hb7)
    have HB7 := hide (HB6.out.trans (below_up hb7 HB6.out.size))
    clear hb7 HT6 HB6 HSM
    go_wp2_with fail
    refine (raw_len (L := 0) (R := []) HT7.out.hy rfl rfl (by decide)).mono ?_
    rintro e w8 ⟨ad8, cap8, ab8, rfl, _, _, hb8⟩
    have HT8 := hide (HT7.out.below hb8)
    have HB8 := hide (HB7.out.trans (below_up hb8 HB7.out.size))
    obtain ⟨g0, g1⟩ := KP.out w8 HB8.out
    clear hb8 HT7 HB7
    have HW := hide (write_any HT8.out.hd x0 x1 (by omega))
    have hsl2 : (D.write x0 x1).2.S.length = l.length := by rw [D.write_slen]; exact hSl
    generalize (D.write x0 x1).1 = E9 at *
    generalize (D.write x0 x1).2 = D9 at *
    go_wp2_with fail
    refine HW.out.mono ?_
    rintro e w9 ⟨rfl, F9, hD9, hM9⟩
    have HT9 := hide (HT8.out.stepd hD9 hM9)
    have HB9 := hide (HB8.out.trans (hM9.below HB8.out.size HT8.out.hd.ftlow))
    clear hD9 hM9 HW HT8 HB8 g0 g1
    go_wp2_with fail
    refine (sectors_len HT9.out.hx rfl hSl).mono ?_
    rintro e w10 ⟨ad10, cap10, ab10, rfl, hr10, _, hb10⟩
    have HSM := hide (same_len (cap := cap10) (cap' := cap3) hr10 (HT9.out.was.below hb10) hSl hl)
    have HT10 := hide (HT9.out.below hb10)
    have HB10 := hide (HB9.out.trans (below_up hb10 HB9.out.size))
    clear hr10 hb10 HT9 HB9
    go_wp2_with fail
    refine HSM.out.mono ?_
    rintro e w11 ⟨rfl, hb11⟩
    have HT11 := hide (HT10.out.below hb11)
    have HB11 := hide (HB10.out.trans (below_up hb11 HB10.out.size))
    clear hb11 HT10 HB10 HSM
    go_wp2_with fail
    refine (sectors_len HT11.out.hy rfl hSl).mono ?_
    rintro e w12 ⟨ad12, cap12, ab12, rfl, hr12, _, hb12⟩
    have HSM := hide (same_len (cap := cap12) (cap' := cap3) hr12 (HT11.out.was.below hb12) hSl hl)
    have HT12 := hide (HT11.out.below hb12)
    have HB12 := hide (HB11.out.trans (below_up hb12 HB11.out.size))
    clear hr12 hb12 HT11 HB11
    go_wp2_with fail
    refine HSM.out.mono ?_
    rintro e w13 ⟨rfl, hb13⟩
    have HT13 := hide (HT12.out.below hb13)
    have HB13 := hide (HB12.out.trans (below_up hb13 HB12.out.size))
    clear hb13 HT12 HB12 HSM
    go_wp2_with fail
    refine (sectors_len HT13.out.hd rfl hsl2).mono ?_
    rintro e w14 ⟨ad14, cap14, ab14, rfl, hr14, hab14, hb14⟩
    have HT14 := hide (HT13.out.below hb14)
    have HB14 := hide (HB13.out.trans (below_up hb14 HB13.out.size))
    have HNX : Hid (¬ Fx ab14) := fun hf => absurd (HT13.out.hx.ftlt _ hf).2 (by omega)
    have HR14 := hide hr14
    have HAB := hide (hr14.lt (by rw [hsl2]; exact hp))
    clear hr14 hb14 HT13 HB13 hab14
    obtain ⟨g0, g1⟩ := KQ.out w14 HB14.out
    have HW := hide (write_any HT14.out.hx y0 y1 (by omega))
    generalize (D.write y0 y1).1 = E15 at *
    generalize (D.write y0 y1).2 = D15 at *
    go_wp2_with fail
    refine HW.out.mono ?_
    rintro e w15 ⟨rfl, F15, hD15, hM15⟩
    have HT15 := hide (HT14.out.stepx hD15 hM15)
    have HB15 := hide (HB14.out.trans (hM15.below HB14.out.size HT14.out.hx.ftlow))
    have HR15 := hide (HR14.out.mv hM15 (fun _ => HNX.out))
    have HNX15 : Hid (¬ F15 ab14) := fun hf => (hM15.foot _ hf).elim HNX.out (fun h1 => absurd HAB.out (by omega))
    clear hD15 hM15 HW HT14 HB14 g0 g1 HR14 HNX
    have HFG := hide (forget_any HT15.out.hx)
    go_wp2_with fail
    refine HFG.out.mono ?_
    rintro e w16 ⟨rfl, F16, hD16, hM16⟩
    have HT16 := hide (HT15.out.stepx hD16 hM16)
    have HB16 := hide (HB15.out.trans (hM16.below HB15.out.size HT15.out.hx.ftlow))
    have HR16 := hide (HR15.out.mv hM16 (fun _ => HNX15.out))
    clear hD16 hM16 HFG HT15 HB15 HR15 HNX15
    go_wp2_with fail
    refine (sectors_len HT16.out.hd rfl hsl2).mono ?_
    rintro e w17 ⟨ad17, cap17, ab17, rfl, hr17, _, hb17⟩
    have HSM := hide (same_len (cap := cap17) (cap' := cap14) hr17 (HR16.out.below hb17) hsl2 hl)
    have HT17 := hide (HT16.out.below hb17)
    have HB17 := hide (HB16.out.trans (below_up hb17 HB16.out.size))
    clear hr17 hb17 HT16 HB16 HR16
    go_wp2_with fail
    refine HSM.out.mono ?_
    rintro e w18 ⟨rfl, hb18⟩
    have HT18 := hide (HT17.out.below hb18)
    have HB18 := hide (HB17.out.trans (below_up hb18 HB17.out.size))
    clear hb18 HT17 HB17 HSM
    go_wp2_with fail
    refine (sectors_len HT18.out.hy rfl hSl).mono ?_
    rintro e w19 ⟨ad19, cap19, ab19, rfl, hr19, _, hb19⟩
    have HSM := hide (same_len (cap := cap19) (cap' := cap3) hr19 (HT18.out.was.below hb19) hSl hl)
    have HB19 := hide (HB18.out.trans (below_up hb19 HB18.out.size))
    clear hr19 hb19 HT18 HB18
    go_wp2_with fail
    refine HSM.out.mono ?_
    rintro e w20 ⟨rfl, hb20⟩
    have HB20 := hide (HB19.out.trans (below_up hb20 HB19.out.size))
    clear hb20 HB19 HSM
    go_wp2_with fail
    refine (fixed_true w20).mono ?_
    rintro e w21 ⟨rfl, hb21⟩
    have HB21 := hide (HB20.out.trans (below_up hb21 HB20.out.size))
    clear hb21
    go_wp2
    go_ret
    exact ⟨rfl, HB0.out.trans (below_up HB21.out (by have := HSZ.out; omega))⟩
  · have HM := hide (made_no (cap := cap) (v := .slice ad2 R.length cap2) H0 hE hl)
    have HN := hide (rload_no (cap := cap) H0 hE hl)
    have HFX := hide (fixed_true W0)
    obtain ⟨c0, c1⟩ := KC.out W0 (Below.refl _ _)
    generalize loadE l = E at *
    have h10 : (E != 0) = true := by simpa using hE
    clear h h2 hsz0 hk0 hk1 hk2
    go_enter Try.func4, Try.ntmps4
    go_wp2_with (first
      | (go_at_call 6; clear hW0; refine HM.out.mono ?_; rintro e w2 ⟨rfl, rfl⟩)
      | (go_at_call 7; refine HN.out.mono ?_; rintro e w2 ⟨rfl, rfl⟩)
      | (go_at_call 8; refine HFX.out.mono ?_; rintro e w3 ⟨rfl, hb3⟩; have HB3 := hide hb3; clear hb3))
    go_ret
    exact ⟨rfl, HB0.out.trans (below_up HB3.out (by have := HSZ.out; omega))⟩
end Go.Proofs.Ytnhibcadenmglab
