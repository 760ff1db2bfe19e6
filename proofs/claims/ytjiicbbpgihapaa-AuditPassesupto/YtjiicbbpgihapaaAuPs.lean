import Derived.Test.YtjiicbbpgihapaaAuBf
import Derived.Deep.DeepCutAuto
import Derived.Deep.RegionHeld3
import Derived.BigQuiet
namespace Go.Proofs.Ytjiicbbpgihapaa
open Go.RowKit Go.MapKept
set_option maxRecDepth 8000

theorem cutP_run (W : World) (p : Option Addr) (n N cap : Nat) (h : n ≤ cap) : (Instr.slice 22 (.slice p N cap) none (some (.int .i64 (n : Int))) none).run Try.prog W = .ok (sliced p 0 n cap 13) W := by
  have hi : (n : Int) ≤ (cap : Int) := by omega
  rw [run_slice_h (P := Try.prog) W 22 p N cap (by simp [Program.elem, Try.underlying22]) .i64 (n : Int) (by omega) hi]
  have e : Try.prog.elem 22 = 43 := by simp [Program.elem, Try.underlying22]
  rw [e]
  go_simp
theorem cutS_run (W : World) (p : Option Addr) (n N cap : Nat) (h : n ≤ N) : (Instr.slice 22 (.slice p N cap) (some (.int .i64 (n : Int))) none none).run Try.prog W = .ok (sliced p n N cap 13) W := by
  have hi : (n : Int) ≤ (N : Int) := by omega
  rw [run_slice_l (P := Try.prog) W 22 p N cap (by simp [Program.elem, Try.underlying22]) .i64 (n : Int) (by omega) hi]
  have e : Try.prog.elem 22 = 43 := by simp [Program.elem, Try.underlying22]
  rw [e]
  go_simp
theorem cut_at (W : World) (v : Value) (lo hi : Option Value) : (Instr.sliceAt 22 v lo hi none).run Try.prog W = (Instr.slice 22 v lo hi none).run Try.prog W :=
  run_sliceAt_slice (P := Try.prog) W 22 _ _ _ _ (by simp [Program.elem, Try.underlying22])
theorem shf_get (n : Nat) (l : List (Nat × Nat)) {i : Nat} (hi : i < l.length) : (l.map (shf n))[i]! = shf n l[i]! := by
  rw [getElem!_pos _ i (by simpa using hi), getElem!_pos l i hi, List.getElem_map]
set_option maxHeartbeats 16000000 in
theorem auditPasses_walk {w : World} {v : Value} {l : List Ev} (hr : Rv w v l) (hll : l.length ≤ 1048576) (hf : ∀ e ∈ l, e.fit) (hnil : ∀ n cap, v = .slice none n cap → n = 0 ∧ cap = 0) {z : Int} (hz : -9223372036854775808 ≤ z ∧ z ≤ 9223372036854775807) {kd : Int} (hkd : -9223372036854775808 ≤ kd ∧ kd ≤ 9223372036854775807) :
    Calls Try.prog 5 #[v, .int .i64 z, .int .i64 kd] w fun e w' => e = .returned (.bool true) ∧ Below w.heap.size w w' := by
  have _q9 := hkd
  obtain ⟨L, hL, hSrc, hT⟩ := hr.srv hnil
  obtain ⟨p, cap, rfl, hcap⟩ := hr.shape
  have HFx : Hid (∀ W, Calls Try.prog 11 #[] W fun e w' => e = .returned (.bool true) ∧ Below W.heap.size W w') := hide fixed_any
  have HA := hide (all_fv hr hf)
  by_cases hE : allE l = 0
  case neg =>
    have HL : allL l = [] := by unfold allL; rw [if_neg hE]
    have hor := allE_or hE
    rw [HL] at HA
    generalize allE l = AE at *
    clear hE hr hf HL hz hcap hnil hSrc hT hL hkd
    rcases hor with rfl | rfl
    all_goals
      go_enter Try.func5, Try.ntmps5
      go_wp2_with fail
      refine HA.out.mono ?_
      rintro e w1 ⟨ad, cp, rfl, _, hb⟩
      have HB := hide hb
      clear hb
      go_wp2_with fail
      refine (HFx.out _).mono ?_
      rintro e w2 ⟨rfl, hb2⟩
      have HB2 := hide (below_of HB.out hb2)
      clear hb2
      go_wp2_with fail
      go_ret
      exact ⟨rfl, HB2.out⟩
  obtain ⟨nn, hnn⟩ : ∃ nn : Nat, nn = (min (max 0 z) (l.length : Int)).toNat := ⟨_, rfl⟩
  have hnl : nn ≤ l.length := by omega
  have h65 := (allE_zero hE).1
  have HL := hide hL
  have hLl : L.length = l.length := by rw [← hL, List.length_map]
  have HLl := hide hLl
  rw [hE] at HA
  have HPure := hide (fun (h1 : l.length ≠ 65536) {x : Ev} (hm : mute x) (hb : nn = 0 ∨ ((l[nn - 1]!).k ≠ 4 ∧ (l[nn - 1]!).k ≠ 14)) => passes_pure hE h1 hnl hm hb)
  have HR := hide hr
  have HFit := hide hf
  have HSrc := hide hSrc
  have HT := hide hT
  have hA : (allL l).length ≤ 9 * 65536 := by
    have h2 := allN_len l l.length
    have h3 : allL l = allN l l.length := by unfold allL; rw [if_pos hE]
    rw [h3]; omega
  have hE0 := hide hE
  clear hE hr hf hnil hSrc hT hL hLl
  have HSm : Hid (∀ x ∈ allL l, x.2 ≤ 65536) := hide fun x hx => by
    have h3 : allL l = allN l l.length := by unfold allL; rw [if_pos hE0.out]
    rw [h3] at hx
    have := (allN_mem l hx).1
    omega
  generalize hAA : allL l = A at *
  have HAA := hide hAA
  have HNN := hide hnn
  clear hnn hAA
  go_enter Try.func5, Try.ntmps5
  go_wp2_with fail
  refine HA.out.mono ?_
  rintro e w1 ⟨ad, cp, rfl, hv1, hb1⟩
  have HV1 := hide hv1
  have HB1 := hide hb1
  clear hv1 hb1 HA
  go_upto_region 4 with fail
  go_cut [9] (fun u1 wc => u1 = .int .i64 (nn : Int) ∧ w1 = wc)
  case first =>
    obtain ⟨h2, h3⟩ := hz
    by_cases h1 : z < 0
    · have e : (nn : Int) = 0 := by have := HNN.out; omega
      go_wp2_with fail
      all_goals first | (go_meet; case rel => exact ⟨congrArg (Value.int .i64) (by omega), rfl⟩) | (exfalso; omega)
    · by_cases h4 : z ≤ (l.length : Int)
      · have e : (nn : Int) = z := by have := HNN.out; omega
        go_wp2_with fail
        all_goals first | (go_meet; case rel => exact ⟨congrArg (Value.int .i64) (by omega), rfl⟩) | (exfalso; omega)
      · have e : (nn : Int) = l.length := by have := HNN.out; omega
        go_wp2_with fail
        all_goals first | (go_meet; case rel => exact ⟨congrArg (Value.int .i64) (by omega), rfl⟩) | (exfalso; omega)
  case rest =>
  obtain ⟨rfl, rfl⟩ := hcut
  clear hz
  go_upto_region 5 with fail
  go_cut [71] (fun u wc => (u = .bool true ∨ (u = .bool false ∧ Hid (l.length ≠ 65536 ∧ (nn = 0 ∨ ((l[nn - 1]!).k ≠ 4 ∧ (l[nn - 1]!).k ≠ 14))))) ∧ w1 = wc)
  case first =>
    have HR1 := hide (HR.out.below HB1.out)
    by_cases q1 : l.length = 65536
    · have k1 : ((l.length : Int) == 65536) = true := by simp; omega
      clear HR1
      go_wp2_with fail
      go_meet
      case rel => exact ⟨.inl rfl, rfl⟩
    have k1 : ((l.length : Int) == 65536) = false := by simp; omega
    have HQ1 := hide q1
    have HD : ∀ (b : Nat), Hid (nn = 0) → True := fun _ _ => trivial
    clear HD q1
    have hway : nn < l.length ∨ ¬ nn < l.length := Decidable.em _
    have hcell : Hid (∀ j, j < l.length → ∃ ab ao, p = some ⟨ab, ao, none⟩ ∧ w1.cell? ⟨ab, ao + j * 13, none⟩ = some (.int .i64 (l[j]!).k)) := hide fun j hj => by
      obtain ⟨ab, ao, hp, _, hx⟩ := HR1.out.at (by omega)
      obtain ⟨q, cq, _, hcs⟩ := hx j hj
      exact ⟨ab, ao, hp, hcs 0 _ rfl⟩
    clear HR1
    by_cases q2 : nn < l.length ∧ (l[nn]!).k = 14
    · obtain ⟨ab, ao, rfl, c0⟩ := hcell.out nn q2.1
      rw [q2.2] at c0
      have k2 : (nn : Int) < (l.length : Int) := by omega
      have k3 := q2.1
      clear hcell hway q2
      go_wp2_with fail
      go_meet
      case rel => exact ⟨.inl rfl, rfl⟩
    have hfirst : (¬ nn < l.length) ∨ (nn < l.length ∧ ¬ (l[nn]!).k = 14) := by
      by_cases h : nn < l.length
      · exact .inr ⟨h, fun e => q2 ⟨h, e⟩⟩
      · exact .inl h
    clear hway q2
    by_cases q3 : nn = 0
    · have k0 : ¬ (0 : Int) < (nn : Int) := by omega
      have HQ3 := hide q3
      rcases hfirst with q4 | ⟨q4, q5⟩
      · have k2 : ¬ (nn : Int) < (l.length : Int) := by omega
        clear hcell q3
        go_wp2_with fail
        go_meet
        case rel => exact ⟨.inr ⟨rfl, hide ⟨HQ1.out, .inl HQ3.out⟩⟩, rfl⟩
      · obtain ⟨ab, ao, rfl, c0⟩ := hcell.out nn q4
        have k2 : (nn : Int) < (l.length : Int) := by omega
        generalize (l[nn]!).k = kk at *
        have k5 : (kk == 14) = false := by simpa using q5
        clear hcell q5 q3
        go_wp2_with fail
        go_meet
        case rel => exact ⟨.inr ⟨rfl, hide ⟨HQ1.out, .inl HQ3.out⟩⟩, rfl⟩
    have k0 : (0 : Int) < (nn : Int) := by omega
    obtain ⟨j, hj⟩ : ∃ j, j = nn - 1 := ⟨_, rfl⟩
    have k9 : IntKind.i64.wrap ((nn : Int) - 1) = (j : Int) := by rw [IntKind.wrap_i64]; omega
    have k8 : (j : Int) < (l.length : Int) := by omega
    have k7 : j < l.length := by omega
    have HJ := hide hj
    have hcj := hcell.out j k7
    generalize hkj : (l[j]!).k = kj at *
    have HKJ := hide hkj
    clear hkj
    by_cases q6 : kj = 14
    · subst q6
      rcases hfirst with q4 | ⟨q4, q5⟩
      · obtain ⟨ab, ao, rfl, c1⟩ := hcj
        have k2 : ¬ (nn : Int) < (l.length : Int) := by omega
        clear hcell q3 hj
        go_wp2_with fail
        go_meet
        case rel => exact ⟨.inl rfl, rfl⟩
      · obtain ⟨ab, ao, hp, c0⟩ := hcell.out nn q4
        obtain ⟨ab', ao', hp', c1⟩ := hcj
        subst hp
        injection hp' with hp'
        injection hp' with hpa hpb
        subst hpa; subst hpb
        have k2 : (nn : Int) < (l.length : Int) := by omega
        generalize (l[nn]!).k = kk at *
        have k5 : (kk == 14) = false := by simpa using q5
        clear hcell q5 q3 hj
        go_wp2_with fail
        go_meet
        case rel => exact ⟨.inl rfl, rfl⟩
    have k6 : (kj == 14) = false := by simpa using q6
    by_cases q7 : kj = 4
    · subst q7
      rcases hfirst with q4 | ⟨q4, q5⟩
      · obtain ⟨ab, ao, rfl, c1⟩ := hcj
        have k2 : ¬ (nn : Int) < (l.length : Int) := by omega
        clear hcell q3 hj q6
        go_wp2_with fail
        go_meet
        case rel => exact ⟨.inl rfl, rfl⟩
      · obtain ⟨ab, ao, hp, c0⟩ := hcell.out nn q4
        obtain ⟨ab', ao', hp', c1⟩ := hcj
        subst hp
        injection hp' with hp'
        injection hp' with hpa hpb
        subst hpa; subst hpb
        have k2 : (nn : Int) < (l.length : Int) := by omega
        generalize (l[nn]!).k = kk at *
        have k5 : (kk == 14) = false := by simpa using q5
        clear hcell q5 q3 hj q6
        go_wp2_with fail
        go_meet
        case rel => exact ⟨.inl rfl, rfl⟩
    have k6b : (kj == 4) = false := by simpa using q7
    have HQ6 : Hid ((l[nn - 1]!).k ≠ 4 ∧ (l[nn - 1]!).k ≠ 14) := hide (by rw [← HJ.out, HKJ.out]; exact ⟨q7, q6⟩)
    rcases hfirst with q4 | ⟨q4, q5⟩
    · obtain ⟨ab, ao, rfl, c1⟩ := hcj
      have k2 : ¬ (nn : Int) < (l.length : Int) := by omega
      clear hcell q3 hj q6 q7
      go_wp2_with fail
      go_meet
      case rel => exact ⟨.inr ⟨rfl, hide ⟨HQ1.out, .inr HQ6.out⟩⟩, rfl⟩
    · obtain ⟨ab, ao, hp, c0⟩ := hcell.out nn q4
      obtain ⟨ab', ao', hp', c1⟩ := hcj
      subst hp
      injection hp' with hp'
      injection hp' with hpa hpb
      subst hpa; subst hpb
      have k2 : (nn : Int) < (l.length : Int) := by omega
      generalize (l[nn]!).k = kk at *
      have k5 : (kk == 14) = false := by simpa using q5
      clear hcell q5 q3 hj q6 q7
      go_wp2_with fail
      go_meet
      case rel => exact ⟨.inr ⟨rfl, hide ⟨HQ1.out, .inr HQ6.out⟩⟩, rfl⟩
  case rest =>
  obtain ⟨hor, rfl⟩ := hcut
  rcases hor with rfl | ⟨rfl, HQ⟩
  · go_wp2_with fail
    refine (HFx.out _).mono ?_
    rintro e w2 ⟨rfl, hb2⟩
    have HB2 := hide (below_of HB1.out hb2)
    clear hb2
    go_wp2_with fail
    go_ret
    exact ⟨rfl, HB2.out⟩
  go_upto_if 76 with fail
  go_cut [10] (fun u wc => u = .pointer (some ⟨w1.heap.size, 0, none⟩) ∧ ∃ xk xo xn xl, Hid (mute ⟨xk, xo, xn, xl, 0, 0, 0, 0, 0, 0, 0, ⟨#[]⟩, []⟩) ∧ w1.alloc (.cells #[.int .i64 xk, .int .i64 xo, .int .i64 xn, .int .i64 xl, .int .i64 0, .int .i64 0, .int .i64 0, .int .i64 0, .int .i64 0, .int .i64 0, .int .u64 0, .string ⟨#[]⟩, .slice none 0 0] 43) = wc)
  case first =>
    by_cases h1 : Int.tmod kd 3 = 1
    · have k1 : (Int.tmod kd 3 == 1) = true := by simpa using h1
      clear h1
      go_wp2_with fail
      go_meet
      case rel => exact ⟨rfl, 4, 0, 2, 7, hide (.inr (.inr ⟨rfl, by decide⟩)), rfl⟩
    · have k1 : (Int.tmod kd 3 == 1) = false := by simpa using h1
      clear h1
      go_wp2_with fail
      go_meet
      case rel => exact ⟨rfl, 1, 30, 0, 0, hide (.inl rfl), rfl⟩
  case rest =>
  obtain ⟨rfl, yk, yo, yn, yl, HM, rfl⟩ := hcut
  go_upto_if 81 with fail
  go_cut [10] (fun u wc => u = .pointer (some ⟨w1.heap.size, 0, none⟩) ∧ Hid (Below w1.heap.size w1 wc) ∧ ∃ xk xo xn xl, Hid (mute ⟨xk, xo, xn, xl, 0, 0, 0, 0, 0, 0, 0, ⟨#[]⟩, []⟩) ∧ Hid (wc.heap[w1.heap.size]? = some (.cells #[.int .i64 xk, .int .i64 xo, .int .i64 xn, .int .i64 xl, .int .i64 0, .int .i64 0, .int .i64 0, .int .i64 0, .int .i64 0, .int .i64 0, .int .u64 0, .string ⟨#[]⟩, .slice none 0 0] 43 (0, 0))))
  case first =>
    by_cases h1 : Int.tmod kd 3 = 2
    · have k1 : (Int.tmod kd 3 == 2) = true := by simpa using h1
      clear h1
      go_wp2_with fail
      go_meet
      case rel => exact ⟨rfl, hide (below_alloc w1 _), 3, 0, 2, 7, hide (.inr (.inl rfl)), hide (heap_alloc_new w1 _)⟩
    · have k1 : (Int.tmod kd 3 == 2) = false := by simpa using h1
      clear h1
      go_wp2_with fail
      go_meet
      case rel => exact ⟨rfl, hide (below_alloc w1 _), yk, yo, yn, yl, HM, hide (heap_alloc_new w1 _)⟩
  case rest =>
  clear HM
  obtain ⟨rfl, HBx, xk, xo, xn, xl, HM, HX⟩ := hcut
  obtain ⟨w2, hw2⟩ : ∃ w2, w2 = wc := ⟨_, rfl⟩
  subst hw2
  have HP := hide (HPure.out HQ.out.1 HM.out HQ.out.2)
  have HB2 := hide (below_of HB1.out HBx.out)
  have HV2 := hide (HV1.out.below HBx.out)
  clear HBx HQ HPure hkd
  generalize w1.heap.size = bx at *
  obtain ⟨vs1, hvs1⟩ : ∃ v, v = sliced p 0 nn cap 13 := ⟨_, rfl⟩
  obtain ⟨vs2, hvs2⟩ : ∃ v, v = sliced p nn l.length cap 13 := ⟨_, rfl⟩
  have hc1 : ∀ W, (Instr.slice 22 (.slice p l.length cap) none (some (.int .i64 (nn : Int))) none).run Try.prog W = .ok vs1 W := fun W => by rw [hvs1]; exact cutP_run W p nn l.length cap (by omega)
  have hc1b : ∀ W, (Instr.sliceAt 22 (.slice p l.length cap) none (some (.int .i64 (nn : Int))) none).run Try.prog W = .ok vs1 W := fun W => by rw [cut_at]; exact hc1 W
  have hc2 : ∀ W, (Instr.slice 22 (.slice p l.length cap) (some (.int .i64 (nn : Int))) none none).run Try.prog W = .ok vs2 W := fun W => by rw [hvs2]; exact cutS_run W p nn l.length cap (by omega)
  have hc2b : ∀ W, (Instr.sliceAt 22 (.slice p l.length cap) (some (.int .i64 (nn : Int))) none none).run Try.prog W = .ok vs2 W := fun W => by rw [cut_at]; exact hc2 W
  have hl1 : (L.take nn).length ≤ 65536 := by rw [List.length_take]; have := HLl.out; omega
  have hl2 : (L.drop nn).length ≤ 65536 := by rw [List.length_drop]; have := HLl.out; omega
  have HSrc1 : Hid (∀ V, Below w2.heap.size w2 V → Srv V vs1 (L.take nn)) := hide fun V hb => by rw [hvs1]; exact (HSrc.out.below (below_of HB2.out hb)).take (by have := HLl.out; omega)
  have HSrc2 : Hid (∀ V, Below w2.heap.size w2 V → Srv V vs2 (L.drop nn)) := hide fun V hb => by rw [hvs2]; exact (HSrc.out.below (below_of HB2.out hb)).drop (by have := HLl.out; omega)
  have HT1 : Hid (∀ V, Below w2.heap.size w2 V → EvT V (L.take nn)) := hide fun V hb x hx => HT.out.below (below_of HB2.out hb) x (List.mem_of_mem_take hx)
  have HT2 : Hid (∀ V, Below w2.heap.size w2 V → EvT V (L.drop nn)) := hide fun V hb x hx => HT.out.below (below_of HB2.out hb) x (List.mem_of_mem_drop hx)
  have HTx : Hid (∀ V, Below w2.heap.size w2 V → EvT V [((⟨xk, xo, xn, xl, 0, 0, 0, 0, 0, 0, 0, ⟨#[]⟩, []⟩ : Ev), Value.slice none 0 0)]) := hide fun V _ => EvT.one (x := ⟨xk, xo, xn, xl, 0, 0, 0, 0, 0, 0, 0, ⟨#[]⟩, []⟩) (q := none) (cq := 0) (Tx.nil V)
  have HXc : Hid (∀ V : World, Below w2.heap.size w2 V → V.cell? ⟨bx, 0, none⟩ = some (.int .i64 xk) ∧ V.cell? ⟨bx, 1, none⟩ = some (.int .i64 xo) ∧ V.cell? ⟨bx, 2, none⟩ = some (.int .i64 xn) ∧ V.cell? ⟨bx, 3, none⟩ = some (.int .i64 xl) ∧ V.cell? ⟨bx, 4, none⟩ = some (.int .i64 0) ∧ V.cell? ⟨bx, 5, none⟩ = some (.int .i64 0) ∧ V.cell? ⟨bx, 6, none⟩ = some (.int .i64 0) ∧ V.cell? ⟨bx, 7, none⟩ = some (.int .i64 0) ∧ V.cell? ⟨bx, 8, none⟩ = some (.int .i64 0) ∧ V.cell? ⟨bx, 9, none⟩ = some (.int .i64 0) ∧ V.cell? ⟨bx, 10, none⟩ = some (.int .u64 0) ∧ V.cell? ⟨bx, 11, none⟩ = some (.string ⟨#[]⟩) ∧ V.cell? ⟨bx, 12, none⟩ = some (.slice none 0 0)) := hide fun V hb => by
    have h := (hb.block _ (lt_of_block HX.out)).trans HX.out
    exact ⟨by simp [World.cell?, h], by simp [World.cell?, h], by simp [World.cell?, h], by simp [World.cell?, h], by simp [World.cell?, h], by simp [World.cell?, h], by simp [World.cell?, h], by simp [World.cell?, h], by simp [World.cell?, h], by simp [World.cell?, h], by simp [World.cell?, h], by simp [World.cell?, h], by simp [World.cell?, h]⟩
  have HNN2 : Hid (0 + (L.take nn).length + [((⟨xk, xo, xn, xl, 0, 0, 0, 0, 0, 0, 0, ⟨#[]⟩, []⟩ : Ev), Value.slice none 0 0)].length + (L.drop nn).length = l.length + 1) := hide (by rw [List.length_take, List.length_drop, List.length_singleton]; have := HLl.out; omega)
  have HFin : Hid (∀ V u, V.ownsRow w2.heap.size 43 13 u (0 + (L.take nn).length + [((⟨xk, xo, xn, xl, 0, 0, 0, 0, 0, 0, 0, ⟨#[]⟩, []⟩ : Ev), Value.slice none 0 0)].length + (L.drop nn).length) ([] ++ evs (L.take nn) ++ evs [(⟨xk, xo, xn, xl, 0, 0, 0, 0, 0, 0, 0, ⟨#[]⟩, []⟩, Value.slice none 0 0)] ++ evs (L.drop nn)) → Below w2.heap.size w2 V → Rv V u (ins l nn ⟨xk, xo, xn, xl, 0, 0, 0, 0, 0, 0, 0, ⟨#[]⟩, []⟩)) := hide fun V u ho hb => by
    have e1 : [] ++ evs (L.take nn) ++ evs [((⟨xk, xo, xn, xl, 0, 0, 0, 0, 0, 0, 0, ⟨#[]⟩, []⟩ : Ev), Value.slice none 0 0)] ++ evs (L.drop nn) = evs (L.take nn ++ [(⟨xk, xo, xn, xl, 0, 0, 0, 0, 0, 0, 0, ⟨#[]⟩, []⟩, Value.slice none 0 0)] ++ L.drop nn) := by rw [evs_app, evs_app, List.nil_append]
    have e2 : 0 + (L.take nn).length + [((⟨xk, xo, xn, xl, 0, 0, 0, 0, 0, 0, 0, ⟨#[]⟩, []⟩ : Ev), Value.slice none 0 0)].length + (L.drop nn).length = (L.take nn ++ [((⟨xk, xo, xn, xl, 0, 0, 0, 0, 0, 0, 0, ⟨#[]⟩, []⟩ : Ev), Value.slice none 0 0)] ++ L.drop nn).length := by rw [List.length_append, List.length_append]; omega
    rw [e1, e2] at ho
    have h := Rv.of_own ho (((HT1.out V hb).app (HTx.out V hb)).app (HT2.out V hb))
    have e3 : (L.take nn ++ [((⟨xk, xo, xn, xl, 0, 0, 0, 0, 0, 0, 0, ⟨#[]⟩, []⟩ : Ev), Value.slice none 0 0)] ++ L.drop nn).map Prod.fst = ins l nn ⟨xk, xo, xn, xl, 0, 0, 0, 0, 0, 0, 0, ⟨#[]⟩, []⟩ := by
      rw [List.map_append, List.map_append, List.map_take, List.map_drop, HL.out]
      unfold ins
      simp
    rwa [e3] at h
  have HA2 : Hid (∀ V u, Rv V u (ins l nn ⟨xk, xo, xn, xl, 0, 0, 0, 0, 0, 0, 0, ⟨#[]⟩, []⟩) → Calls Try.prog 12 #[u] V fun e w' => ∃ ad cp, e = .returned (.tuple #[.slice ad A.length cp, .int .i64 0]) ∧ Fv w' (.slice ad A.length cp) (A.map (shf nn)) ∧ Below V.heap.size V w') := hide fun V u h => by
    have h1 := all_fv h (fun e he => by
      unfold ins at he
      rcases List.mem_append.1 he with he | he
      · exact HFit.out e (List.mem_of_mem_take he)
      · rcases List.mem_cons.1 he with rfl | he
        · exact ⟨rfl, rfl, rfl, rfl, rfl, rfl, Nat.zero_le _⟩
        · exact HFit.out e (List.mem_of_mem_drop he))
    have e := HP.out.2
    rw [HP.out.1, e, List.length_map] at h1
    exact h1
  clear hvs1 hvs2 HP HSrc HT HL HAA HFit HX HR HV1 HB1 HM
  have HB0 : Hid True := hide trivial
  clear HB0
  go_upto_region 12 with fail
  go_cut [11] (fun u wc => ∃ aE cE, u = .slice aE (l.length + 1) cE ∧ Hid (Rv wc u (ins l nn ⟨xk, xo, xn, xl, 0, 0, 0, 0, 0, 0, 0, ⟨#[]⟩, []⟩)) ∧ Hid (Below w2.heap.size w2 wc))
  case first =>
    have HS0 : Hid (Below w2.heap.size w2 w2.drew) := hide ((Below.refl _ _).drew)
    clear HA2 HFx HV2 hA h65
    refine wp_region_held_drew (S := fun V => Below w2.heap.size w2 V) (by kernel_rfl) (HS0.out) (fun hHeld => ?_)
    generalize w2.drew = W0 at *
    refine wpAnyH_take (i := 1) (v := .slice p l.length cap) rfl (by kernel_rfl) (by kernel_rfl) (by kernel_rfl) (fun _ _ _ h => h) (Or.inl ⟨by kernel_rfl, fun w1 hSw => by clear hHeld; obtain ⟨g0, g1, g2, g3, g4, g5, g6, g7, g8, g9, g10, g11, g12⟩ := HXc.out _ hSw; go_simp⟩) hHeld ?_
    try simp only [Act.put]
    try simp only [List.getElem_toArray]
    try simp only [List.getElem_cons_succ]
    try simp only [List.getElem_cons_zero]
    try simp only [List.setIfInBounds_toArray]
    try simp only [List.set_cons_succ, List.set_cons_zero]
    refine wpAnyH_take (i := 2) (v := .int .i64 (nn : Int)) rfl (by kernel_rfl) (by kernel_rfl) (by kernel_rfl) (fun _ _ _ h => h) (Or.inl ⟨by kernel_rfl, fun w1 hSw => by clear hHeld; obtain ⟨g0, g1, g2, g3, g4, g5, g6, g7, g8, g9, g10, g11, g12⟩ := HXc.out _ hSw; go_simp⟩) hHeld ?_
    try simp only [Act.put]
    try simp only [List.getElem_toArray]
    try simp only [List.getElem_cons_succ]
    try simp only [List.getElem_cons_zero]
    try simp only [List.setIfInBounds_toArray]
    try simp only [List.set_cons_succ, List.set_cons_zero]
    refine wpAnyH_take (i := 3) (v := vs1) rfl (by kernel_rfl) (by kernel_rfl) (by kernel_rfl) (fun _ _ _ h => h) (Or.inl ⟨by kernel_rfl, fun w1 hSw => by clear hHeld; obtain ⟨g0, g1, g2, g3, g4, g5, g6, g7, g8, g9, g10, g11, g12⟩ := HXc.out _ hSw; go_simp⟩) hHeld ?_
    try simp only [Act.put]
    try simp only [List.getElem_toArray]
    try simp only [List.getElem_cons_succ]
    try simp only [List.getElem_cons_zero]
    try simp only [List.setIfInBounds_toArray]
    try simp only [List.set_cons_succ, List.set_cons_zero]
    refine wpAnyH_take (i := 5) (v := .agg #[.int .i64 xk, .int .i64 xo, .int .i64 xn, .int .i64 xl, .int .i64 0, .int .i64 0, .int .i64 0, .int .i64 0, .int .i64 0, .int .i64 0, .int .u64 0, .string ⟨#[]⟩, .slice none 0 0]) rfl (by kernel_rfl) (by kernel_rfl) (by kernel_rfl) (fun _ _ _ h => h) (Or.inl ⟨by kernel_rfl, fun w1 hSw => by clear hHeld; obtain ⟨g0, g1, g2, g3, g4, g5, g6, g7, g8, g9, g10, g11, g12⟩ := HXc.out _ hSw; go_simp⟩) hHeld ?_
    try simp only [Act.put]
    try simp only [List.getElem_toArray]
    try simp only [List.getElem_cons_succ]
    try simp only [List.getElem_cons_zero]
    try simp only [List.setIfInBounds_toArray]
    try simp only [List.set_cons_succ, List.set_cons_zero]
    refine wpAnyH_take (i := 8) (v := .slice p l.length cap) rfl (by kernel_rfl) (by kernel_rfl) (by kernel_rfl) (fun _ _ _ h => h) (Or.inl ⟨by kernel_rfl, fun w1 hSw => by clear hHeld; obtain ⟨g0, g1, g2, g3, g4, g5, g6, g7, g8, g9, g10, g11, g12⟩ := HXc.out _ hSw; go_simp⟩) hHeld ?_
    try simp only [Act.put]
    try simp only [List.getElem_toArray]
    try simp only [List.getElem_cons_succ]
    try simp only [List.getElem_cons_zero]
    try simp only [List.setIfInBounds_toArray]
    try simp only [List.set_cons_succ, List.set_cons_zero]
    refine wpAnyH_take (i := 9) (v := .int .i64 (nn : Int)) rfl (by kernel_rfl) (by kernel_rfl) (by kernel_rfl) (fun _ _ _ h => h) (Or.inl ⟨by kernel_rfl, fun w1 hSw => by clear hHeld; obtain ⟨g0, g1, g2, g3, g4, g5, g6, g7, g8, g9, g10, g11, g12⟩ := HXc.out _ hSw; go_simp⟩) hHeld ?_
    try simp only [Act.put]
    try simp only [List.getElem_toArray]
    try simp only [List.getElem_cons_succ]
    try simp only [List.getElem_cons_zero]
    try simp only [List.setIfInBounds_toArray]
    try simp only [List.set_cons_succ, List.set_cons_zero]
    refine wpAnyH_take (i := 10) (v := vs2) rfl (by kernel_rfl) (by kernel_rfl) (by kernel_rfl) (fun _ _ _ h => h) (Or.inl ⟨by kernel_rfl, fun w1 hSw => by clear hHeld; obtain ⟨g0, g1, g2, g3, g4, g5, g6, g7, g8, g9, g10, g11, g12⟩ := HXc.out _ hSw; go_simp⟩) hHeld ?_
    try simp only [Act.put]
    try simp only [List.getElem_toArray]
    try simp only [List.getElem_cons_succ]
    try simp only [List.getElem_cons_zero]
    try simp only [List.setIfInBounds_toArray]
    try simp only [List.set_cons_succ, List.set_cons_zero]
    refine wpAnyH_ready (rs := [0, 6]) (by kernel_rfl) (by simp) ?_
    refine AllReadyH.cons rfl (fun K hK => ?_) (AllReadyH.cons rfl (fun K hK => ?_) AllReadyH.nil)
    · go_simp
      obtain ⟨W1, hw⟩ : ∃ V, V = W0.alloc (.cells #[] 43) := ⟨_, rfl⟩
      rw [← hw]
      have hb : Below W0.heap.size W0 W1 := by rw [hw]; exact below_alloc _ _
      have HS1 : Hid (Below w2.heap.size w2 W1) := hide (HS0.out.trans (hb.mono HS0.out.size))
      have HA : Hid (W1.ownsRow w2.heap.size 43 13 (.slice (some ⟨W0.heap.size, 0, none⟩) 0 0) 0 []) := hide (by rw [hw]; exact World.ownsRow_made W0 #[] 0 HS0.out.size (by decide) rfl)
      clear hw hb
      refine hK.out _ _ (HS1.out) (fun hHeld => ?_)
      clear hK K
      try simp only [Act.put]
      try simp only [List.getElem_toArray]
      try simp only [List.getElem_cons_succ]
      try simp only [List.getElem_cons_zero]
      try simp only [List.setIfInBounds_toArray]
      try simp only [List.set_cons_succ, List.set_cons_zero]
      refine wpAnyH_ready (rs := [4, 6]) (by kernel_rfl) (by simp) ?_
      refine AllReadyH.cons rfl (fun K hK => ?_) (AllReadyH.cons rfl (fun K hK => ?_) AllReadyH.nil)
      · obtain ⟨vB, W2, hrun, hown, hgrow, hbB, aB, cB, hvB⟩ := run_srv HA.out (HSrc1.out W1 HS1.out) (HT1.out W1 HS1.out) (by first | omega | (simp only [List.length_singleton]; omega)) (by first | omega | (simp only [List.length_singleton]; omega)) HS1.out.size
        have HS2 : Hid (Below w2.heap.size w2 W2) := hide (HS1.out.trans hbB)
        have HRun := hide hrun
        have HB := hide hown
        have HvB := hide hvB
        clear hrun hown hgrow hbB hvB
        refine step_append_run rfl (.tmp 84) (.tmp 87) 22 rfl rfl rfl HRun.out ?_
        refine hK.out _ _ (HS2.out) (fun hHeld => ?_)
        clear hK K
        try simp only [Act.put]
        try simp only [List.getElem_toArray]
        try simp only [List.getElem_cons_succ]
        try simp only [List.getElem_cons_zero]
        try simp only [List.setIfInBounds_toArray]
        try simp only [List.set_cons_succ, List.set_cons_zero]
        refine wpAnyH_ready (rs := [6]) (by kernel_rfl) (by simp) ?_
        refine AllReadyH.cons rfl (fun K hK => ?_) AllReadyH.nil
        clear hHeld
        go_simp
        obtain ⟨W3, hw⟩ : ∃ V, V = W2.alloc (.cells #[.int .i64 xk, .int .i64 xo, .int .i64 xn, .int .i64 xl, .int .i64 0, .int .i64 0, .int .i64 0, .int .i64 0, .int .i64 0, .int .i64 0, .int .u64 0, .string ⟨#[]⟩, .slice none 0 0] 43) := ⟨_, rfl⟩
        rw [← hw]
        have hb : Below W2.heap.size W2 W3 := by rw [hw]; exact below_alloc _ _
        have HS3 : Hid (Below w2.heap.size w2 W3) := hide (HS2.out.trans (hb.mono HS2.out.size))
        replace HB := hide (own_keep HB.out fun k e => hb.block k (HB.out.lt k e).2)
        have HC : Hid (W3.heap[W2.heap.size]? = some (.cells #[.int .i64 xk, .int .i64 xo, .int .i64 xn, .int .i64 xl, .int .i64 0, .int .i64 0, .int .i64 0, .int .i64 0, .int .i64 0, .int .i64 0, .int .u64 0, .string ⟨#[]⟩, .slice none 0 0] 43 (0, 0))) := hide (by rw [hw]; exact heap_alloc_new _ _)
        clear hw hb
        refine hK.out _ _ (HS3.out) (fun hHeld => ?_)
        clear hK K
        try simp only [Act.put]
        try simp only [List.getElem_toArray]
        try simp only [List.getElem_cons_succ]
        try simp only [List.getElem_cons_zero]
        try simp only [List.setIfInBounds_toArray]
        try simp only [List.set_cons_succ, List.set_cons_zero]
        refine wpAnyH_ready (rs := [7]) (by kernel_rfl) (by simp) ?_
        refine AllReadyH.cons rfl (fun K hK => ?_) AllReadyH.nil
        obtain ⟨vD, W4, hrun, hown, hgrow, hbB, aD, cD, hvD⟩ := run_srv HB.out (Srv.one (x := ⟨xk, xo, xn, xl, 0, 0, 0, 0, 0, 0, 0, ⟨#[]⟩, []⟩) (t := .slice none 0 0) HC.out) (HTx.out W3 HS3.out) (by first | omega | (simp only [List.length_singleton]; omega)) (by first | omega | (simp only [List.length_singleton]; omega)) HS3.out.size
        have HS4 : Hid (Below w2.heap.size w2 W4) := hide (HS3.out.trans hbB)
        have HRun := hide hrun
        have HD := hide hown
        have HvD := hide hvD
        clear hrun hown hgrow hbB hvD
        refine step_append_run rfl (.tmp 88) (.tmp 90) 22 rfl rfl rfl HRun.out ?_
        refine hK.out _ _ (HS4.out) (fun hHeld => ?_)
        clear hK K
        try simp only [Act.put]
        try simp only [List.getElem_toArray]
        try simp only [List.getElem_cons_succ]
        try simp only [List.getElem_cons_zero]
        try simp only [List.setIfInBounds_toArray]
        try simp only [List.set_cons_succ, List.set_cons_zero]
        refine wpAnyH_ready (rs := [11]) (by kernel_rfl) (by simp) ?_
        refine AllReadyH.cons rfl (fun K hK => ?_) AllReadyH.nil
        obtain ⟨vE, W5, hrun, hown, hgrow, hbB, aE, cE, hvE⟩ := run_srv HD.out (HSrc2.out W4 HS4.out) (HT2.out W4 HS4.out) (by first | omega | (simp only [List.length_singleton]; omega)) (by first | omega | (simp only [List.length_singleton]; omega)) HS4.out.size
        have HS5 : Hid (Below w2.heap.size w2 W5) := hide (HS4.out.trans hbB)
        have HRun := hide hrun
        have HE := hide hown
        have HvE := hide hvE
        clear hrun hown hgrow hbB hvE
        refine step_append_run rfl (.tmp 91) (.tmp 94) 22 rfl rfl rfl HRun.out ?_
        refine hK.out _ _ (HS5.out) (fun hHeld => ?_)
        clear hK K
        try simp only [Act.put]
        try simp only [List.getElem_toArray]
        try simp only [List.getElem_cons_succ]
        try simp only [List.getElem_cons_zero]
        try simp only [List.setIfInBounds_toArray]
        try simp only [List.set_cons_succ, List.set_cons_zero]
        refine wpAnyH_take (i := 12) (v := vE) rfl (by kernel_rfl) (by kernel_rfl) (by kernel_rfl) (fun _ _ _ h => h) (Or.inl ⟨by kernel_rfl, fun w1 hSw => by clear hHeld; obtain ⟨g0, g1, g2, g3, g4, g5, g6, g7, g8, g9, g10, g11, g12⟩ := HXc.out _ hSw; go_simp⟩) hHeld ?_
        try simp only [Act.put]
        try simp only [List.getElem_toArray]
        try simp only [List.getElem_cons_succ]
        try simp only [List.getElem_cons_zero]
        try simp only [List.setIfInBounds_toArray]
        try simp only [List.set_cons_succ, List.set_cons_zero]
        refine wpAnyH_done (by kernel_rfl) ?_ _
        go_wp2_with fail
        go_meet
        case rel => exact ⟨aE, cE, HvE.out.trans (by rw [HNN2.out]), hide (HFin.out _ _ HE.out HS5.out), HS5⟩
      · clear hHeld
        go_simp
        obtain ⟨W2, hw⟩ : ∃ V, V = W1.alloc (.cells #[.int .i64 xk, .int .i64 xo, .int .i64 xn, .int .i64 xl, .int .i64 0, .int .i64 0, .int .i64 0, .int .i64 0, .int .i64 0, .int .i64 0, .int .u64 0, .string ⟨#[]⟩, .slice none 0 0] 43) := ⟨_, rfl⟩
        rw [← hw]
        have hb : Below W1.heap.size W1 W2 := by rw [hw]; exact below_alloc _ _
        have HS2 : Hid (Below w2.heap.size w2 W2) := hide (HS1.out.trans (hb.mono HS1.out.size))
        have HAC : Hid (W1.heap.size ≠ W0.heap.size) := hide (by have h1 : W0.heap.size < W1.heap.size := (HA.out.lt _ rfl).2; omega)
        replace HA := hide (own_keep HA.out fun k e => hb.block k (HA.out.lt k e).2)
        have HC : Hid (W2.heap[W1.heap.size]? = some (.cells #[.int .i64 xk, .int .i64 xo, .int .i64 xn, .int .i64 xl, .int .i64 0, .int .i64 0, .int .i64 0, .int .i64 0, .int .i64 0, .int .i64 0, .int .u64 0, .string ⟨#[]⟩, .slice none 0 0] 43 (0, 0))) := hide (by rw [hw]; exact heap_alloc_new _ _)
        clear hw hb
        refine hK.out _ _ (HS2.out) (fun hHeld => ?_)
        clear hK K
        try simp only [Act.put]
        try simp only [List.getElem_toArray]
        try simp only [List.getElem_cons_succ]
        try simp only [List.getElem_cons_zero]
        try simp only [List.setIfInBounds_toArray]
        try simp only [List.set_cons_succ, List.set_cons_zero]
        refine wpAnyH_ready (rs := [4]) (by kernel_rfl) (by simp) ?_
        refine AllReadyH.cons rfl (fun K hK => ?_) AllReadyH.nil
        obtain ⟨vB, W3, hrun, hown, hgrow, hbB, aB, cB, hvB⟩ := run_srv HA.out (HSrc1.out W2 HS2.out) (HT1.out W2 HS2.out) (by first | omega | (simp only [List.length_singleton]; omega)) (by first | omega | (simp only [List.length_singleton]; omega)) HS2.out.size
        have HS3 : Hid (Below w2.heap.size w2 W3) := hide (HS2.out.trans hbB)
        have HRun := hide hrun
        have HB := hide hown
        replace HC := hide ((hgrow.block _ (lt_of_block HC.out) (fun e => HAC.out (Option.some.inj e))).trans HC.out)
        have HvB := hide hvB
        clear hrun hown hgrow hbB hvB
        refine step_append_run rfl (.tmp 84) (.tmp 87) 22 rfl rfl rfl HRun.out ?_
        refine hK.out _ _ (HS3.out) (fun hHeld => ?_)
        clear hK K
        try simp only [Act.put]
        try simp only [List.getElem_toArray]
        try simp only [List.getElem_cons_succ]
        try simp only [List.getElem_cons_zero]
        try simp only [List.setIfInBounds_toArray]
        try simp only [List.set_cons_succ, List.set_cons_zero]
        refine wpAnyH_ready (rs := [7]) (by kernel_rfl) (by simp) ?_
        refine AllReadyH.cons rfl (fun K hK => ?_) AllReadyH.nil
        obtain ⟨vD, W4, hrun, hown, hgrow, hbB, aD, cD, hvD⟩ := run_srv HB.out (Srv.one (x := ⟨xk, xo, xn, xl, 0, 0, 0, 0, 0, 0, 0, ⟨#[]⟩, []⟩) (t := .slice none 0 0) HC.out) (HTx.out W3 HS3.out) (by first | omega | (simp only [List.length_singleton]; omega)) (by first | omega | (simp only [List.length_singleton]; omega)) HS3.out.size
        have HS4 : Hid (Below w2.heap.size w2 W4) := hide (HS3.out.trans hbB)
        have HRun := hide hrun
        have HD := hide hown
        have HvD := hide hvD
        clear hrun hown hgrow hbB hvD
        refine step_append_run rfl (.tmp 88) (.tmp 90) 22 rfl rfl rfl HRun.out ?_
        refine hK.out _ _ (HS4.out) (fun hHeld => ?_)
        clear hK K
        try simp only [Act.put]
        try simp only [List.getElem_toArray]
        try simp only [List.getElem_cons_succ]
        try simp only [List.getElem_cons_zero]
        try simp only [List.setIfInBounds_toArray]
        try simp only [List.set_cons_succ, List.set_cons_zero]
        refine wpAnyH_ready (rs := [11]) (by kernel_rfl) (by simp) ?_
        refine AllReadyH.cons rfl (fun K hK => ?_) AllReadyH.nil
        obtain ⟨vE, W5, hrun, hown, hgrow, hbB, aE, cE, hvE⟩ := run_srv HD.out (HSrc2.out W4 HS4.out) (HT2.out W4 HS4.out) (by first | omega | (simp only [List.length_singleton]; omega)) (by first | omega | (simp only [List.length_singleton]; omega)) HS4.out.size
        have HS5 : Hid (Below w2.heap.size w2 W5) := hide (HS4.out.trans hbB)
        have HRun := hide hrun
        have HE := hide hown
        have HvE := hide hvE
        clear hrun hown hgrow hbB hvE
        refine step_append_run rfl (.tmp 91) (.tmp 94) 22 rfl rfl rfl HRun.out ?_
        refine hK.out _ _ (HS5.out) (fun hHeld => ?_)
        clear hK K
        try simp only [Act.put]
        try simp only [List.getElem_toArray]
        try simp only [List.getElem_cons_succ]
        try simp only [List.getElem_cons_zero]
        try simp only [List.setIfInBounds_toArray]
        try simp only [List.set_cons_succ, List.set_cons_zero]
        refine wpAnyH_take (i := 12) (v := vE) rfl (by kernel_rfl) (by kernel_rfl) (by kernel_rfl) (fun _ _ _ h => h) (Or.inl ⟨by kernel_rfl, fun w1 hSw => by clear hHeld; obtain ⟨g0, g1, g2, g3, g4, g5, g6, g7, g8, g9, g10, g11, g12⟩ := HXc.out _ hSw; go_simp⟩) hHeld ?_
        try simp only [Act.put]
        try simp only [List.getElem_toArray]
        try simp only [List.getElem_cons_succ]
        try simp only [List.getElem_cons_zero]
        try simp only [List.setIfInBounds_toArray]
        try simp only [List.set_cons_succ, List.set_cons_zero]
        refine wpAnyH_done (by kernel_rfl) ?_ _
        go_wp2_with fail
        go_meet
        case rel => exact ⟨aE, cE, HvE.out.trans (by rw [HNN2.out]), hide (HFin.out _ _ HE.out HS5.out), HS5⟩
    · clear hHeld
      go_simp
      obtain ⟨W1, hw⟩ : ∃ V, V = W0.alloc (.cells #[.int .i64 xk, .int .i64 xo, .int .i64 xn, .int .i64 xl, .int .i64 0, .int .i64 0, .int .i64 0, .int .i64 0, .int .i64 0, .int .i64 0, .int .u64 0, .string ⟨#[]⟩, .slice none 0 0] 43) := ⟨_, rfl⟩
      rw [← hw]
      have hb : Below W0.heap.size W0 W1 := by rw [hw]; exact below_alloc _ _
      have HS1 : Hid (Below w2.heap.size w2 W1) := hide (HS0.out.trans (hb.mono HS0.out.size))
      have HC : Hid (W1.heap[W0.heap.size]? = some (.cells #[.int .i64 xk, .int .i64 xo, .int .i64 xn, .int .i64 xl, .int .i64 0, .int .i64 0, .int .i64 0, .int .i64 0, .int .i64 0, .int .i64 0, .int .u64 0, .string ⟨#[]⟩, .slice none 0 0] 43 (0, 0))) := hide (by rw [hw]; exact heap_alloc_new _ _)
      clear hw hb
      refine hK.out _ _ (HS1.out) (fun hHeld => ?_)
      clear hK K
      try simp only [Act.put]
      try simp only [List.getElem_toArray]
      try simp only [List.getElem_cons_succ]
      try simp only [List.getElem_cons_zero]
      try simp only [List.setIfInBounds_toArray]
      try simp only [List.set_cons_succ, List.set_cons_zero]
      refine wpAnyH_ready (rs := [0]) (by kernel_rfl) (by simp) ?_
      refine AllReadyH.cons rfl (fun K hK => ?_) AllReadyH.nil
      go_simp
      obtain ⟨W2, hw⟩ : ∃ V, V = W1.alloc (.cells #[] 43) := ⟨_, rfl⟩
      rw [← hw]
      have hb : Below W1.heap.size W1 W2 := by rw [hw]; exact below_alloc _ _
      have HS2 : Hid (Below w2.heap.size w2 W2) := hide (HS1.out.trans (hb.mono HS1.out.size))
      have HAC : Hid (W0.heap.size ≠ W1.heap.size) := hide (by have h1 : W0.heap.size < W1.heap.size := lt_of_block HC.out; omega)
      replace HC := hide ((hb.block _ (lt_of_block HC.out)).trans HC.out)
      have HA : Hid (W2.ownsRow w2.heap.size 43 13 (.slice (some ⟨W1.heap.size, 0, none⟩) 0 0) 0 []) := hide (by rw [hw]; exact World.ownsRow_made W1 #[] 0 HS1.out.size (by decide) rfl)
      clear hw hb
      refine hK.out _ _ (HS2.out) (fun hHeld => ?_)
      clear hK K
      try simp only [Act.put]
      try simp only [List.getElem_toArray]
      try simp only [List.getElem_cons_succ]
      try simp only [List.getElem_cons_zero]
      try simp only [List.setIfInBounds_toArray]
      try simp only [List.set_cons_succ, List.set_cons_zero]
      refine wpAnyH_ready (rs := [4]) (by kernel_rfl) (by simp) ?_
      refine AllReadyH.cons rfl (fun K hK => ?_) AllReadyH.nil
      obtain ⟨vB, W3, hrun, hown, hgrow, hbB, aB, cB, hvB⟩ := run_srv HA.out (HSrc1.out W2 HS2.out) (HT1.out W2 HS2.out) (by first | omega | (simp only [List.length_singleton]; omega)) (by first | omega | (simp only [List.length_singleton]; omega)) HS2.out.size
      have HS3 : Hid (Below w2.heap.size w2 W3) := hide (HS2.out.trans hbB)
      have HRun := hide hrun
      have HB := hide hown
      replace HC := hide ((hgrow.block _ (lt_of_block HC.out) (fun e => HAC.out (Option.some.inj e))).trans HC.out)
      have HvB := hide hvB
      clear hrun hown hgrow hbB hvB
      refine step_append_run rfl (.tmp 84) (.tmp 87) 22 rfl rfl rfl HRun.out ?_
      refine hK.out _ _ (HS3.out) (fun hHeld => ?_)
      clear hK K
      try simp only [Act.put]
      try simp only [List.getElem_toArray]
      try simp only [List.getElem_cons_succ]
      try simp only [List.getElem_cons_zero]
      try simp only [List.setIfInBounds_toArray]
      try simp only [List.set_cons_succ, List.set_cons_zero]
      refine wpAnyH_ready (rs := [7]) (by kernel_rfl) (by simp) ?_
      refine AllReadyH.cons rfl (fun K hK => ?_) AllReadyH.nil
      obtain ⟨vD, W4, hrun, hown, hgrow, hbB, aD, cD, hvD⟩ := run_srv HB.out (Srv.one (x := ⟨xk, xo, xn, xl, 0, 0, 0, 0, 0, 0, 0, ⟨#[]⟩, []⟩) (t := .slice none 0 0) HC.out) (HTx.out W3 HS3.out) (by first | omega | (simp only [List.length_singleton]; omega)) (by first | omega | (simp only [List.length_singleton]; omega)) HS3.out.size
      have HS4 : Hid (Below w2.heap.size w2 W4) := hide (HS3.out.trans hbB)
      have HRun := hide hrun
      have HD := hide hown
      have HvD := hide hvD
      clear hrun hown hgrow hbB hvD
      refine step_append_run rfl (.tmp 88) (.tmp 90) 22 rfl rfl rfl HRun.out ?_
      refine hK.out _ _ (HS4.out) (fun hHeld => ?_)
      clear hK K
      try simp only [Act.put]
      try simp only [List.getElem_toArray]
      try simp only [List.getElem_cons_succ]
      try simp only [List.getElem_cons_zero]
      try simp only [List.setIfInBounds_toArray]
      try simp only [List.set_cons_succ, List.set_cons_zero]
      refine wpAnyH_ready (rs := [11]) (by kernel_rfl) (by simp) ?_
      refine AllReadyH.cons rfl (fun K hK => ?_) AllReadyH.nil
      obtain ⟨vE, W5, hrun, hown, hgrow, hbB, aE, cE, hvE⟩ := run_srv HD.out (HSrc2.out W4 HS4.out) (HT2.out W4 HS4.out) (by first | omega | (simp only [List.length_singleton]; omega)) (by first | omega | (simp only [List.length_singleton]; omega)) HS4.out.size
      have HS5 : Hid (Below w2.heap.size w2 W5) := hide (HS4.out.trans hbB)
      have HRun := hide hrun
      have HE := hide hown
      have HvE := hide hvE
      clear hrun hown hgrow hbB hvE
      refine step_append_run rfl (.tmp 91) (.tmp 94) 22 rfl rfl rfl HRun.out ?_
      refine hK.out _ _ (HS5.out) (fun hHeld => ?_)
      clear hK K
      try simp only [Act.put]
      try simp only [List.getElem_toArray]
      try simp only [List.getElem_cons_succ]
      try simp only [List.getElem_cons_zero]
      try simp only [List.setIfInBounds_toArray]
      try simp only [List.set_cons_succ, List.set_cons_zero]
      refine wpAnyH_take (i := 12) (v := vE) rfl (by kernel_rfl) (by kernel_rfl) (by kernel_rfl) (fun _ _ _ h => h) (Or.inl ⟨by kernel_rfl, fun w1 hSw => by clear hHeld; obtain ⟨g0, g1, g2, g3, g4, g5, g6, g7, g8, g9, g10, g11, g12⟩ := HXc.out _ hSw; go_simp⟩) hHeld ?_
      try simp only [Act.put]
      try simp only [List.getElem_toArray]
      try simp only [List.getElem_cons_succ]
      try simp only [List.getElem_cons_zero]
      try simp only [List.setIfInBounds_toArray]
      try simp only [List.set_cons_succ, List.set_cons_zero]
      refine wpAnyH_done (by kernel_rfl) ?_ _
      go_wp2_with fail
      go_meet
      case rel => exact ⟨aE, cE, HvE.out.trans (by rw [HNN2.out]), hide (HFin.out _ _ HE.out HS5.out), HS5⟩
  case rest =>
  obtain ⟨aE, cE, rfl, HRv, HBw⟩ := hcut
  obtain ⟨w3, hw3⟩ : ∃ w3, w3 = wc := ⟨_, rfl⟩
  subst hw3
  have HA3 := hide (HA2.out _ _ HRv.out)
  clear HSrc1 HSrc2 HT1 HT2 HTx HXc HFin HA2 HRv hc1 hc1b hc2 hc2b hl1 hl2 HNN2
  go_wp2_with fail
  refine HA3.out.mono ?_
  rintro e w4 ⟨ad2, cp2, rfl, hv4, hb4⟩
  have HV4 := hide hv4
  have HV3 := hide (HV2.out.below (below_of HBw.out hb4))
  have HB4 := hide (below_of HB2.out (below_of HBw.out hb4))
  clear hv4 hb4 HA3 HV2 HBw HB2
  go_wp2_with fail
  go_loopw [13] (fun u wr => ∃ i : Nat, u = .int .i64 (i : Int) ∧ i ≤ A.length ∧ Hid (Below w4.heap.size w4 wr)) (fun u _ => (A.length - (intOf u).toNat))
  case atStart => exact ⟨0, rfl, Nat.zero_le _, hide (Below.refl _ _)⟩
  case round =>
    obtain ⟨i, rfl, hi, HBr⟩ := hrel
    by_cases hil : i < A.length
    · obtain ⟨b1, o1, rfl, hl1, hc1⟩ := (HV3.out.below HBr.out).at (by omega)
      obtain ⟨b2, o2, rfl, hl2, hc2⟩ := (HV4.out.below HBr.out).at (by rw [List.length_map]; omega)
      obtain ⟨c0, c1⟩ := hc1 i hil
      obtain ⟨d0, d1⟩ := hc2 i (by rw [List.length_map]; omega)
      rw [shf_get nn A hil] at d0 d1
      have hi1 : IntKind.i64.wrap ((i : Int) + 1) = (i : Int) + 1 := by rw [IntKind.wrap_i64]; omega
      have hsm : (A[i]!).2 ≤ 65536 := by
        have hm : A[i]! ∈ A := by rw [getElem!_pos A i hil]; exact List.getElem_mem hil
        exact HSm.out _ hm
      generalize A[i]! = a at *
      obtain ⟨ar, aa⟩ := a
      unfold shf at d0 d1
      dsimp only at c0 c1 d0 d1 hsm
      have n1 : ¬ (b1 = wr.heap.size) := by omega
      have n2 : ¬ (b2 = wr.heap.size) := by omega
      have n3 : ¬ (wr.heap.size = b1) := by omega
      have n4 : ¬ (wr.heap.size = b2) := by omega
      clear hc1 hc2 HV3 HV4
      by_cases hsh : nn ≤ aa
      · rw [if_pos hsh] at d1
        have k1 : (nn : Int) ≤ (aa : Int) := by omega
        have k2 : IntKind.i64.wrap ((aa : Int) + 1) = ((aa + 1 : Nat) : Int) := by rw [IntKind.wrap_i64]; omega
        have hq : ∀ W, (binOp .neq 25 (.agg #[.int .i64 (ar : Int), .int .i64 ((aa + 1 : Nat) : Int)]) (.agg #[.int .i64 (ar : Int), .int .i64 ((aa + 1 : Nat) : Int)])).run Try.prog W = .ok (.bool false) W := fun W => by rw [neq_fault]; simp
        generalize ha1 : aa + 1 = a1 at *
        clear hsh ha1
        have HBq := hide (below_of HBr.out (below_drewN (below_alloc wr (.cells #[.int .i64 (ar : Int), .int .i64 (a1 : Int)] 25)) 0))
        go_wp2
        go_quiet (fail)
        go_wp2
        exact ⟨⟨i + 1, by go_num, by omega, hide (below_of HBr.out (below_drewN (below_alloc wr _) _))⟩, by simp [intOf]; omega⟩
      · rw [if_neg hsh] at d1
        have k1 : ¬ (nn : Int) ≤ (aa : Int) := by omega
        have hq : ∀ W, (binOp .neq 25 (.agg #[.int .i64 (ar : Int), .int .i64 (aa : Int)]) (.agg #[.int .i64 (ar : Int), .int .i64 (aa : Int)])).run Try.prog W = .ok (.bool false) W := fun W => by rw [neq_fault]; simp
        clear hsh
        go_wp2
        go_quiet (fail)
        go_wp2
        exact ⟨⟨i + 1, by go_num, by omega, hide (below_of HBr.out (below_drewN (below_alloc wr _) _))⟩, by simp [intOf]; omega⟩
    · obtain rfl : i = A.length := by omega
      have hki : ¬ ((A.length : Int) < (A.length : Int)) := by omega
      go_wp2_with fail
      refine (HFx.out _).mono ?_
      rintro e w5 ⟨rfl, hb5⟩
      have HB5 := hide (below_of (below_of HB4.out HBr.out) hb5)
      clear hb5
      go_wp2_with fail
      go_ret
      exact ⟨rfl, HB5.out⟩
end Go.Proofs.Ytjiicbbpgihapaa
