import Derived.Test.YtpmjhndkcdfpfaaBdE
namespace Go.Proofs.Ytpmjhndkcdfpfaa
open Go.RowKit

theorem Try.infoB : (Try.prog.info? 23).map (fun i => (i.zero, i.size, i.bytes)) = some (some (.pointer none), 1, 8) := by kernel_rfl
theorem Try.infoX : (Try.prog.info? 27).map (fun i => (i.zero, i.size, i.bytes)) = some (some (.pointer none), 1, 8) := by kernel_rfl
theorem info_parts {t : TypeId} {z : Option Value} {s b : Nat} (h : (Try.prog.info? t).map (fun i => (i.zero, i.size, i.bytes)) = some (z, s, b)) : ∃ i, Try.prog.info? t = some i ∧ i.zero = z ∧ i.size = s ∧ i.bytes = b := by
  cases hi : Try.prog.info? t with
  | none => rw [hi] at h; cases h
  | some i => rw [hi] at h; simp at h; exact ⟨i, rfl, h.1, h.2.1, h.2.2⟩
theorem one_new (w : World) (u : Value) (t : TypeId) : ∀ j x, [u][j]? = some x → (w.alloc (.cells #[u] t)).cell? ((⟨w.heap.size, 0, none⟩ : Addr).add j) = some x := by
  intro j x hj
  match j, hj with
  | 0, hj => simp at hj; subst hj; simp [Addr.add]
theorem below_drewN {B : Nat} {w w' : World} (h : Below B w w') (n : Nat) : Below B w (w'.drewN n) := ⟨h.os, h.tape, h.output, h.size, h.block⟩
theorem bne_self (x : Int) : (x != x) = false := by simp

/-- the program's row is one longer already -/
structure Half (B : Nat) (w : World) (vl vm : Value) (L : List Sc) (b : Nat) (c : Bc) : Prop where
  rl : w.ownsRow B 23 1 vl (L.length + 1) (pbs L ++ [.pointer (some ⟨b, 0, none⟩)])
  rm : w.ownsRow B 27 1 vm L.length (pxs L)
  kp : Kp B w L
  cb : Cm 47 w b c
  lo : B ≤ b
  nb : ∀ (i : Nat) (s : Sc), L[i]? = some s → s.b ≠ b
theorem Half.below {B : Nat} {w w' : World} {vl vm : Value} {L : List Sc} {b : Nat} {c : Bc} (h : Half B w vl vm L b c) (hb : Below w.heap.size w w') : Half B w' vl vm L b c :=
  ⟨own_keep h.rl fun k hk => hb.block k (h.rl.lt k hk).2, own_keep h.rm fun k hk => hb.block k (h.rm.lt k hk).2, h.kp.below hb, h.cb.below hb, h.lo, h.nb⟩
theorem Mem.half {B : Nat} {w w' : World} {vl vl' vm : Value} {L : List Sc} {b : Nat} {c : Bc} {o : Obj} (h : Mem B w vl vm L) (hc : Cm 47 w b c) (hlo : B ≤ b) (hn : ∀ (i : Nat) (s : Sc), L[i]? = some s → s.b ≠ b)
    (ho : w'.ownsRow B 23 1 vl' (L.length + 1) (pbs L ++ [.pointer (some ⟨b, 0, none⟩)])) (hg : (w.alloc o).grownBy w' vl.ownBlock) : Half B w' vl' vm L b c := by
  have hk : ∀ k, k < w.heap.size → vl.ownBlock ≠ some k → w'.heap[k]? = w.heap[k]? := fun k hk hn => (hg.block k (by rw [World.size_alloc]; omega) (Ne.symm hn)).trans (Below.heap_alloc w o k hk)
  have ne : ∀ {k cs t}, w.heap[k]? = some (Obj.cells cs t (0, 0)) → t ≠ 23 → w'.heap[k]? = w.heap[k]? := fun {k cs t} e ht => hk k (lt_of_block e) fun e2 => by
    obtain ⟨ds, hds⟩ := own_blk h.rl e2; exact blk_ne e hds ht rfl
  refine ⟨ho, own_keep h.rm fun k hk' => ?_, h.kp.grown h.rl (by decide) (by decide) hk, (ne hc (by decide)).trans hc, hlo, hn⟩
  obtain ⟨cs, hcs⟩ := own_blk h.rm hk'
  exact ne hcs (by decide)
theorem Half.whole {B : Nat} {w w' : World} {vl vm vm' : Value} {L : List Sc} {b x : Nat} {c : Bc} {o : Obj} (h : Half B w vl vm L b c) (hok : c.ok) (hc : Cm 42 w x c) (hlo : B ≤ x) (hn : ∀ (i : Nat) (s : Sc), L[i]? = some s → s.x ≠ x)
    (ho : w'.ownsRow B 27 1 vm' (L.length + 1) (pxs L ++ [.pointer (some ⟨x, 0, none⟩)])) (hg : (w.alloc o).grownBy w' vm.ownBlock) : Mem B w' vl vm' (L ++ [⟨b, x, c⟩]) := by
  have hk : ∀ k, k < w.heap.size → vm.ownBlock ≠ some k → w'.heap[k]? = w.heap[k]? := fun k hk hn => (hg.block k (by rw [World.size_alloc]; omega) (Ne.symm hn)).trans (Below.heap_alloc w o k hk)
  have ne : ∀ {k cs t}, w.heap[k]? = some (Obj.cells cs t (0, 0)) → t ≠ 27 → w'.heap[k]? = w.heap[k]? := fun {k cs t} e ht => hk k (lt_of_block e) fun e2 => by
    obtain ⟨ds, hds⟩ := own_blk h.rm e2; exact blk_ne e hds ht rfl
  refine ⟨?_, ?_, (h.kp.grown h.rm (by decide) (by decide) hk).push hok ((ne h.cb (by decide)).trans h.cb) ((ne hc (by decide)).trans hc) h.lo hlo fun i s hs => ⟨h.nb i s hs, hn i s hs⟩⟩
  · rw [List.length_append]
    show w'.ownsRow B 23 1 vl (L.length + 1) (pbs (L ++ [⟨b, x, c⟩]))
    rw [show pbs (L ++ [⟨b, x, c⟩]) = pbs L ++ [.pointer (some ⟨b, 0, none⟩)] by unfold pbs; simp]
    refine own_keep h.rl fun k hk' => ?_
    obtain ⟨cs, hcs⟩ := own_blk h.rl hk'
    exact ne hcs (by decide)
  · rw [List.length_append]
    show w'.ownsRow B 27 1 vm' (L.length + 1) (pxs (L ++ [⟨b, x, c⟩]))
    rw [show pxs (L ++ [⟨b, x, c⟩]) = pxs L ++ [.pointer (some ⟨x, 0, none⟩)] by unfold pxs; simp]
    exact ho
theorem below_grow {B : Nat} {w w1 w' : World} {v : Value} {o : Obj} (h : Below B w w1) (hB : B ≤ w1.heap.size) (hg : (w1.alloc o).grownBy w' v.ownBlock) (hv : ∀ k, v.ownBlock = some k → B ≤ k) : Below B w w' :=
  (h.alloc hB o).grown hg (by rw [World.size_alloc]; omega) hv

set_option maxHeartbeats 4000000 in
set_option maxRecDepth 8000 in
theorem badgeDoes_walk {w : World} {x y : Int} (hx : -9223372036854775808 ≤ x ∧ x ≤ 9223372036854775807) (hy : -9223372036854775808 ≤ y ∧ y ≤ 9223372036854775807) {ad : Option Addr} {ab ao cap : Nat} {Q : List OpV} (hQ : Ro w ad ab ao Q) (hQl : Q.length ≤ 8796093021952) :
    Calls Try.prog 3 #[.int .i64 x, .int .i64 y, .slice ad Q.length cap] w fun e w' => e = .returned (.bool true) ∧ Below w.heap.size w w' := by
  have HX := hide hx
  have HY := hide hy
  have HQ := hide hQ
  clear hx hy hQ
  go_enter Try.func3, Try.ntmps3
  go_wp2_with fail
  refine (bnew_any w HX.out HY.out).mono ?_
  rintro e w1 (⟨h, rfl, hw1⟩ | ⟨h, rfl, hw1⟩)
  · subst hw1
    have HE := hide h
    have tb : (bnewE x y != bnewE x y) = false := bne_self _
    clear h
    go_wp2_with fail
    refine (rnew_any _ HX.out HY.out).mono ?_
    rintro e w1 (⟨h, rfl, hw1⟩ | ⟨h, rfl, hw1⟩)
    · subst hw1
      clear h
      generalize bnewE x y = E at *
      go_wp2_with fail
      refine (fixed_any _).mono ?_
      rintro e w2 ⟨rfl, hB2⟩
      go_wp2_with fail
      go_ret
      exact ⟨rfl, hB2⟩
    · exact absurd h HE.out
  have HE := hide h
  have HC1 : Hid (Cm 47 w1 w.heap.size (bnew x y)) := by rw [hw1]; exact Cm.new _ _ _ _
  have HB1 : Hid (Below w.heap.size w w1) := by rw [hw1]; exact (Below.refl _ w).alloc (Nat.le_refl _) _
  clear h hw1
  go_wp2_with fail
  refine (rnew_any _ HX.out HY.out).mono ?_
  rintro e w2 (⟨h, rfl, hw1⟩ | ⟨h, rfl, hw1⟩)
  · exact absurd HE.out h
  have HC2 : Hid (Cm 42 w2 w1.heap.size (bnew x y)) := by rw [hw1]; exact Cm.new _ _ _ _
  have HB2 : Hid (Below w1.heap.size w1 w2) := by rw [hw1]; exact (Below.refl _ w1).alloc (Nat.le_refl _) _
  have HC1b := hide (HC1.out.below HB2.out)
  have HOK := hide (bnew_ok h)
  clear h hw1
  generalize bnew x y = c0 at *
  have h12 := HB1.out.size
  have h1b := HC1.out.lt
  have h2b := HC2.out.lt
  have HSL : Hid (∀ w3, w3 = (w2.alloc (.cells #[.pointer (some ⟨w.heap.size, 0, none⟩)] 23)).alloc (.cells #[.pointer (some ⟨w1.heap.size, 0, none⟩)] 27) → Mem w.heap.size w3 (.slice (some ⟨w2.heap.size, 0, none⟩) 1 1) (.slice (some ⟨w2.heap.size + 1, 0, none⟩) 1 1) [⟨w.heap.size, w1.heap.size, c0⟩] ∧ Below w.heap.size w w3) := hide fun w3 hw3 => by
    subst hw3
    have b3 : Below w2.heap.size w2 (w2.alloc (.cells #[.pointer (some ⟨w.heap.size, 0, none⟩)] 23)) := (Below.refl _ w2).alloc (Nat.le_refl _) _
    have s3 := World.size_alloc w2 (.cells #[.pointer (some ⟨w.heap.size, 0, none⟩)] 23)
    have b4 : Below (w2.alloc (.cells #[.pointer (some ⟨w.heap.size, 0, none⟩)] 23)).heap.size (w2.alloc (.cells #[.pointer (some ⟨w.heap.size, 0, none⟩)] 23)) ((w2.alloc (.cells #[.pointer (some ⟨w.heap.size, 0, none⟩)] 23)).alloc (.cells #[.pointer (some ⟨w1.heap.size, 0, none⟩)] 27)) := (Below.refl _ _).alloc (Nat.le_refl _) _
    have o1 := World.ownsRow_lit (base := w.heap.size) (e := 23) (size := 1) w2 #[.pointer (some ⟨w.heap.size, 0, none⟩)] 1 (by omega) (by unfold maxLen; omega) rfl
    have o2 := World.ownsRow_lit (base := w.heap.size) (e := 27) (size := 1) (w2.alloc (.cells #[.pointer (some ⟨w.heap.size, 0, none⟩)] 23)) #[.pointer (some ⟨w1.heap.size, 0, none⟩)] 1 (by omega) (by unfold maxLen; omega) rfl
    refine ⟨⟨own_keep o1 fun k hk => b4.block k (o1.lt k hk).2, by rw [← s3]; exact o2, ?_⟩, HB1.out.trans ((HB2.out.mono h12).trans ((b3.mono (by omega)).trans (b4.mono (by omega))))⟩
    have K0 : Kp w.heap.size w2 [⟨w.heap.size, w1.heap.size, c0⟩] := by
      have one : ∀ (i : Nat) (s : Sc), [(⟨w.heap.size, w1.heap.size, c0⟩ : Sc)][i]? = some s → i = 0 ∧ s = ⟨w.heap.size, w1.heap.size, c0⟩ := fun i s hs => by
        match i, hs with
        | 0, hs => injection hs with hs; exact ⟨rfl, hs.symm⟩
      refine ⟨fun i s hs => ?_, fun i s hs => ?_, fun i s hs => ?_, fun i s hs => ?_, fun i j s t hs ht hij => ?_⟩
      · obtain ⟨_, rfl⟩ := one i s hs; exact HOK.out
      · obtain ⟨_, rfl⟩ := one i s hs; exact HC1b.out
      · obtain ⟨_, rfl⟩ := one i s hs; exact HC2.out
      · obtain ⟨_, rfl⟩ := one i s hs; exact ⟨Nat.le_refl _, h12⟩
      · exact absurd ((one i s hs).1.trans (one j t ht).1.symm) hij
    exact (K0.below b3).below b4
  clear HC1 HC2 HC1b HB1 HB2 HOK HE HX HY
  go_wp2_with fail
  have HST := hide (HSL.out _ rfl)
  obtain ⟨B, hB⟩ : ∃ B, w.heap.size = B := ⟨_, rfl⟩
  have HBe := hide hB
  clear HSL h12 h1b h2b
  rw [hB] at HST ⊢
  clear hB
  go_loopw [11, 12, 13] (fun u t s wr => ∃ (gl cl gm cm i : Nat) (L : List Sc), u = .slice (some ⟨gl, 0, none⟩) L.length cl ∧ t = .slice (some ⟨gm, 0, none⟩) L.length cm ∧ s = .int .i64 (i : Int) ∧ i ≤ Q.length ∧ 1 ≤ L.length ∧ L.length ≤ 8 ∧ Hid (Mem B wr (.slice (some ⟨gl, 0, none⟩) L.length cl) (.slice (some ⟨gm, 0, none⟩) L.length cm) L) ∧ Hid (Below B w wr)) (fun _ _ s _ => Q.length - (intOf s).toNat)
  case atStart => exact ⟨_, _, _, _, 0, [⟨_, _, c0⟩], rfl, rfl, rfl, Nat.zero_le _, Nat.le_refl _, (by decide : 1 ≤ 8), hide HST.out.1, hide HST.out.2⟩
  case round =>
    clear HST
    obtain ⟨gl, cl, gm, cm, i, L, rfl, rfl, rfl, hi, hL1, hL8, HM, HB⟩ := hrel
    by_cases hiq : i < Q.length
    · have hii : (i : Int) < (Q.length : Int) := by omega
      have hat := HQ.out.at_ (by omega)
      subst hat
      have hR := HQ.out.below (show Below w.heap.size w wr by rw [HBe.out]; exact HB.out)
      have q0 := hR.on i hiq
      have q1 := hR.k i hiq
      have b0 := HQ.out.bo i hiq
      clear hR
      generalize Q[i].on = qo at *
      generalize Q[i].k = qk at *
      go_wp2_with fail
      refine (place_any (m := L.length) (by omega) (by omega) b0).mono ?_
      rintro e w2 ⟨rfl, rfl⟩
      have hp : pl qo L.length < L.length := pl_lt (by omega)
      generalize pl qo L.length = p at *
      clear b0
      obtain ⟨s, hs⟩ : ∃ s, L[p]? = some s := ⟨_, List.getElem?_eq_getElem hp⟩
      have HS := hide hs
      have m0 := HM.out.cl hs
      have m1 := HM.out.cm hs
      have hpI : (p : Int) < (L.length : Int) := by omega
      have HCB := hide (HM.out.kp.cb p s hs)
      have HCX := hide (HM.out.kp.cx p s hs)
      have HOK := hide (HM.out.kp.ok p s hs)
      have HLO := hide (HM.out.kp.lo p s hs)
      clear hs
      by_cases hk0 : qk = 0
      · subst hk0
        go_wp2_with fail
        refine (next_any HOK.out HCB.out).mono ?_
        rintro e w3 ⟨rfl, hC3, hO3⟩
        have m3 : w3.cell? ⟨gm, p, none⟩ = some (.pointer (some ⟨s.x, 0, none⟩)) := by
          obtain ⟨cs, hcs⟩ := own_blk HM.out.rm (k := gm) rfl
          exact (World.cell?_of_block (hO3.block gm (lt_of_block hcs) (blk_ne hcs HCB.out (by decide)))).trans m1
        have HX3 := hide (HCX.out.on hO3 (blk_ne HCX.out HCB.out (by decide)))
        have HC3 := hide hC3
        have HO3 := hide hO3
        clear hC3 hO3 m0 m1 q0 q1
        go_wp2_with fail
        refine (rnext_any HOK.out HX3.out).mono ?_
        rintro e w4 ⟨rfl, hC4, hO4⟩
        have HM4 := hide (HM.out.step HS.out (Bc.next_ok HOK.out) HC3.out HO3.out hC4 hO4)
        have HB4 : Hid (Below B w w4) := hide ((HB.out.trans (HO3.out.below HLO.out.1 (by have := HB.out.size; rw [HBe.out] at this; exact this))).trans (hO4.below HLO.out.2 (by have := HB.out.size; rw [HBe.out] at this; exact Nat.le_trans this HO3.out.size)))
        clear hC4 hO4 HC3 HO3 HX3 HM HB m3
        go_wp2_with fail
        go_roundw
        case rel => exact ⟨gl, cl, gm, cm, i + 1, L.set p ⟨s.b, s.x, s.c.next.c⟩, by rw [List.length_set], by rw [List.length_set], by go_num, by omega, by rw [List.length_set]; exact hL1, by rw [List.length_set]; exact hL8, by rw [List.length_set]; exact HM4, HB4⟩
        case measure => simp only [intOf]; omega
      · have d0 : (qk == 0) = false := by simpa using hk0
        by_cases hk2 : qk = 2
        · subst hk2
          clear hk0
          go_wp2_with fail
          refine (clone_any HCB.out).mono ?_
          rintro e w3 ⟨rfl, hC3, hB3⟩
          have hBr : B ≤ w2.heap.size := by have := HB.out.size; rw [HBe.out] at this; exact this
          have HM3 := hide (HM.out.below hB3)
          have HC3 := hide hC3
          have HX3 := hide (HCX.out.below hB3)
          have HB3 := hide (HB.out.trans (hB3.mono hBr))
          have HNB : Hid (∀ (i : Nat) (s : Sc), L[i]? = some s → s.b ≠ w2.heap.size) := hide fun i s hs => Nat.ne_of_lt (HM.out.kp.cb i s hs).lt
          have h23 := hB3.size
          have HLB := hide hBr
          obtain ⟨b', hb'⟩ : ∃ b', w2.heap.size = b' := ⟨_, rfl⟩
          rw [show (Value.pointer (some ⟨w2.heap.size, 0, none⟩)) = Value.pointer (some ⟨b', 0, none⟩) by rw [hb']]
          rw [hb'] at HC3 HNB HLB h23
          have hBb : B ≤ b' := HLB.out
          clear hC3 hB3 hb' hBr m0 m1 q0 q1 HM HB HCB HCX
          by_cases h8 : L.length < 8
          · have d8 : decide ((L.length : Int) < 8) = true := by simp; omega
            obtain ⟨iB, hiB, zB0, zB1, zB2⟩ := info_parts Try.infoB
            obtain ⟨iX, hiX, zX0, zX1, zX2⟩ := info_parts Try.infoX
            go_upto_region 27 with (at_builtin; refine wpList_append_lies _ rfl _ _ 31 rfl B 23 iB (.pointer none) 1 8 Try.underlying31 hiB zB0 zB1 zB2 rfl (by decide) (.slice (some ⟨gl, 0, none⟩) L.length cl) L.length (pbs L) rfl (HM3.out.rl.alloc _) ⟨w3.heap.size, 0, none⟩ 1 1 [.pointer (some ⟨b', 0, none⟩)] rfl rfl (one_new _ _ _) (by intro u hu; simp at hu; subst hu; rfl) (by decide) (by unfold maxLen; omega) (by omega) (by rw [World.size_alloc]; omega) _ rfl ?_; intro g4 cap4 w4 hown4 hgrow4 hat4 _)
            have HH4 := hide (HM3.out.half HC3.out hBb HNB.out hown4 hgrow4)
            have HB4 := hide (below_grow HB3.out (by omega) hgrow4 (fun k hk => (HM3.out.rl.lt k hk).1))
            have hs4 : w3.heap.size ≤ w4.heap.size := by have := hgrow4.size; rw [World.size_alloc] at this; omega
            clear hown4 hgrow4 hat4 HM3 HB3 HC3 HX3
            have m4 : w4.cell? ⟨gm, p, none⟩ = some (.pointer (some ⟨s.x, 0, none⟩)) := by
              have e1 := HH4.out.rm.cells (g := gm) rfl p (.pointer (some ⟨s.x, 0, none⟩)) (by unfold pxs; rw [List.getElem?_map, HS.out]; rfl)
              rw [Addr.add_lit, Nat.zero_add] at e1
              exact e1
            have HX4 := hide (HH4.out.kp.cx p s HS.out)
            go_wp2_with fail
            refine (rcopy_any HX4.out).mono ?_
            rintro e w5 ⟨rfl, hC5, hB5⟩
            have HNX : Hid (∀ (i : Nat) (s : Sc), L[i]? = some s → s.x ≠ w4.heap.size) := hide fun i s hs => Nat.ne_of_lt (HH4.out.kp.cx i s hs).lt
            have HH5 := hide (HH4.out.below hB5)
            have HB5 := hide (HB4.out.trans (hB5.mono (by omega)))
            have h45 := hB5.size
            have HC5 := hide hC5
            have hB4 : B ≤ w4.heap.size := by omega
            obtain ⟨x', hx'⟩ : ∃ x', w4.heap.size = x' := ⟨_, rfl⟩
            rw [show (Value.pointer (some ⟨w4.heap.size, 0, none⟩)) = Value.pointer (some ⟨x', 0, none⟩) by rw [hx']]
            rw [hx'] at HC5 HNX hB4 h45
            clear hC5 hB5 hx' m4 HH4 HB4 HX4
            go_wp2_with (at_builtin; refine wpList_append_lies _ rfl _ _ 32 rfl B 27 iX (.pointer none) 1 8 Try.underlying32 hiX zX0 zX1 zX2 rfl (by decide) (.slice (some ⟨gm, 0, none⟩) L.length cm) L.length (pxs L) rfl (HH5.out.rm.alloc _) ⟨w5.heap.size, 0, none⟩ 1 1 [.pointer (some ⟨x', 0, none⟩)] rfl rfl (one_new _ _ _) (by intro u hu; simp at hu; subst hu; rfl) (by decide) (by unfold maxLen; omega) (by omega) (by rw [World.size_alloc]; omega) _ rfl ?_; intro g6 cap6 w6 hown6 hgrow6 hat6 _)
            have HM6 := hide (HH5.out.whole HOK.out HC5.out hB4 HNX.out hown6 hgrow6)
            have HB6 := hide (below_grow HB5.out (by omega) hgrow6 (fun k hk => (HH5.out.rm.lt k hk).1))
            clear hown6 hgrow6 hat6 HH5 HB5 HC5
            go_wp2_with fail
            go_roundw
            case rel => exact ⟨g4, cap4, g6, cap6, i + 1, L ++ [⟨b', x', s.c⟩], by rw [List.length_append]; rfl, by rw [List.length_append]; rfl, by go_num, by omega, by rw [List.length_append]; simp, by rw [List.length_append, List.length_singleton]; omega, by rw [List.length_append]; exact HM6, HB6⟩
            case measure => simp only [intOf]; omega
          · have d8 : decide ((L.length : Int) < 8) = false := by simp; omega
            go_wp2_with fail
            go_roundw
            case rel => exact ⟨gl, cl, gm, cm, i + 1, L, rfl, rfl, by go_num, by omega, hL1, hL8, HM3, HB3⟩
            case measure => simp only [intOf]; omega
        · have d2 : (qk == 2) = false := by simpa using hk2
          have HLa : Hid (∀ n, Calls Try.prog 15 #[.pointer (some ⟨s.b, 0, none⟩)] (w2.drewN n) fun e w' => e = .returned (.int .i64 s.c.last) ∧ w' = w2.drewN n) := hide fun n => last_any (HCB.out.drewN n)
          have HRe : Hid (∀ n, Calls Try.prog 16 #[.pointer (some ⟨s.b, 0, none⟩)] (w2.drewN n) fun e w' => e = .returned (.int .i64 s.c.res) ∧ w' = w2.drewN n) := hide fun n => reserved_any (HCB.out.drewN n)
          have r1 := HCX.out.c1
          have r2 := HCX.out.c2
          have t1 := bne_self s.c.last
          have t2 := bne_self s.c.res
          go_wp2_with fail
          go_quiet (first
            | (go_at_call 15; exact Calls.quiet_of_same (HLa.out _))
            | (go_at_call 16; exact Calls.quiet_of_same (HRe.out _)))
          go_wp2_with fail
          go_roundw
          case rel => exact ⟨gl, cl, gm, cm, i + 1, L, rfl, rfl, by go_num, by omega, hL1, hL8, hide (HM.out.drewN _), hide (below_drewN HB.out _)⟩
          case measure => simp only [intOf]; omega
    · have hii : ¬ (i : Int) < (Q.length : Int) := by omega
      go_wp2_with fail
      go_loopw [22] (fun u wx => ∃ j : Nat, u = .int .i64 (j : Int) ∧ j ≤ L.length ∧ Hid (Mem B wx (.slice (some ⟨gl, 0, none⟩) L.length cl) (.slice (some ⟨gm, 0, none⟩) L.length cm) L) ∧ Hid (Below B w wx)) (fun u _ => L.length - (intOf u).toNat)
      case atStart => exact ⟨0, rfl, Nat.zero_le _, HM, HB⟩
      case round =>
        clear HM HB
        obtain ⟨p, rfl, hj, HM, HB⟩ := hrel
        by_cases hp : p < L.length
        · have hpI : (p : Int) < (L.length : Int) := by omega
          obtain ⟨s, hs⟩ : ∃ s, L[p]? = some s := ⟨_, List.getElem?_eq_getElem hp⟩
          have m0 := HM.out.cl hs
          have m1 := HM.out.cm hs
          have HCB := hide (HM.out.kp.cb p s hs)
          have HCX := hide (HM.out.kp.cx p s hs)
          clear hs
          have HLa : Hid (∀ n, Calls Try.prog 15 #[.pointer (some ⟨s.b, 0, none⟩)] (wr.drewN n) fun e w' => e = .returned (.int .i64 s.c.last) ∧ w' = wr.drewN n) := hide fun n => last_any (HCB.out.drewN n)
          have HRe : Hid (∀ n, Calls Try.prog 16 #[.pointer (some ⟨s.b, 0, none⟩)] (wr.drewN n) fun e w' => e = .returned (.int .i64 s.c.res) ∧ w' = wr.drewN n) := hide fun n => reserved_any (HCB.out.drewN n)
          have r1 := HCX.out.c1
          have r2 := HCX.out.c2
          have t1 := bne_self s.c.last
          have t2 := bne_self s.c.res
          go_wp2_with fail
          go_quiet (first
            | (go_at_call 15; exact Calls.quiet_of_same (HLa.out _))
            | (go_at_call 16; exact Calls.quiet_of_same (HRe.out _)))
          go_wp2_with fail
          go_roundw
          case rel => exact ⟨p + 1, by go_num, by omega, hide (HM.out.drewN _), hide (below_drewN HB.out _)⟩
          case measure => simp only [intOf]; omega
        · have hpI : ¬ (p : Int) < (L.length : Int) := by omega
          clear HM
          go_wp2_with fail
          refine (fixed_any _).mono ?_
          rintro e w4 ⟨rfl, hB4⟩
          go_wp2_with fail
          go_ret
          exact ⟨rfl, by rw [HBe.out]; exact HB.out.trans (hB4.mono (by have := HB.out.size; rw [HBe.out] at this; exact this))⟩
end Go.Proofs.Ytpmjhndkcdfpfaa
