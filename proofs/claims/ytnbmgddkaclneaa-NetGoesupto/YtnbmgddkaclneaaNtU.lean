import Derived.Test.YtnbmgddkaclneaaNtV
import Derived.Test.YtnbmgddkaclneaaNtH
import Derived.Deep.DeepCutAuto
import Derived.Deep.CutBlock
import Derived.Deep.LoopGhost
namespace Go.Proofs.Ytnbmgddkaclneaa
open Go.RowKit Go.Shelf

attribute [local go_sem] Oper.semAt_some

theorem takeL_lenG (l : List Dg) (p : Int) : (takeL l p).length ≤ l.length := by
  unfold takeL
  split
  · exact List.length_eraseIdx_le l p.toNat
  · exact Nat.le_refl _

set_option maxRecDepth 100000 in
set_option maxHeartbeats 4000000 in
theorem netGoes_walk (ad : Option Addr) (ab ao len cap : Nat) (S : Nat → ByteArray) (lv : Int) (ad2 : Option Addr) (ab2 ao2 len2 cap2 : Nat) (Q : Nat → OpV) (w : World) (hD : Strs w ad len ab ao S) (hO : Ops w ad2 len2 ab2 ao2 Q) (hlen : len ≤ 1048576) (hlen2 : len2 ≤ 1048576) :
    Calls Try.prog 4 #[.slice ad len cap, .int .i64 lv, .slice ad2 len2 cap2] w fun e w' => e = .returned (.bool true) ∧ Below w.heap.size w w' := by
  refine (callsIn_wide (n := 9)).1 ?_
  refine callsIn_of_wp_marks Try.func4 rfl trivial ?_ rfl
  simp only [Try.ntmps4, List.size_toArray, List.length_cons, List.length_nil, Nat.reduceAdd, Nat.reduceSub, Array.replicate_succ, Array.replicate_zero, List.push_toArray, List.append_toArray, List.nil_append, List.cons_append]
  have HD := hide hD
  have HO := hide hO
  clear hD hO
  gi_wp2_with fail
  refine ⟨trivial, (callsIn_wide.2 (new_any _)).mono ?_⟩
  rintro e w0 ⟨rfl, hw0⟩
  have HB0 : Hid (Bag 58 w.heap.size w0 (w.heap.size + 4) (.slice none 0 0) [] 0) := by
    rw [hw0]
    have := Bag.new 58 ((((w.alloc (.cells #[.slice ad len cap] 40)).alloc (.cells #[.int .i64 lv] 3)).alloc (.cells #[.slice ad2 len2 cap2] 22)).alloc (.cells #[.bool false] 4)) w.heap.size (by simp; omega)
    simp only [World.size_alloc, Nat.add_assoc, Nat.reduceAdd] at this
    exact this
  have X0 : Hid (Boxed w0 w.heap.size 40 (.slice ad len cap) ∧ Boxed w0 (w.heap.size + 1) 3 (.int .i64 lv) ∧ Boxed w0 (w.heap.size + 2) 22 (.slice ad2 len2 cap2) ∧ Boxed w0 (w.heap.size + 3) 4 (.bool false)) := by
    rw [hw0]
    refine ⟨((((Boxed.new w _ _).alloc _).alloc _).alloc _).alloc _, ?_, ?_, ?_⟩
    · have := (((Boxed.new (w.alloc (.cells #[.slice ad len cap] 40)) 3 (.int .i64 lv)).alloc (.cells #[.slice ad2 len2 cap2] 22)).alloc (.cells #[.bool false] 4)).alloc (.cells #[.slice none 0 0, .int .i64 0] 58)
      simpa only [World.size_alloc, Nat.add_assoc, Nat.reduceAdd] using this
    · have := ((Boxed.new ((w.alloc (.cells #[.slice ad len cap] 40)).alloc (.cells #[.int .i64 lv] 3)) 22 (.slice ad2 len2 cap2)).alloc (.cells #[.bool false] 4)).alloc (.cells #[.slice none 0 0, .int .i64 0] 58)
      simpa only [World.size_alloc, Nat.add_assoc, Nat.reduceAdd] using this
    · have := (Boxed.new (((w.alloc (.cells #[.slice ad len cap] 40)).alloc (.cells #[.int .i64 lv] 3)).alloc (.cells #[.slice ad2 len2 cap2] 22)) 4 (.bool false)).alloc (.cells #[.slice none 0 0, .int .i64 0] 58)
      simpa only [World.size_alloc, Nat.add_assoc, Nat.reduceAdd] using this
  have HL0 : Hid (Below w.heap.size w w0) := by
    rw [hw0]
    exact (((((Below.refl _ w).alloc (Nat.le_refl _) _).alloc (by simp) _).alloc (by simp; omega) _).alloc (by simp; omega) _).alloc (by simp; omega) _
  have hz0 : w0.heap.size = w.heap.size + 5 := by rw [hw0]; simp
  simp only [World.size_alloc, Nat.add_assoc, Nat.reduceAdd]
  clear hw0
  gi_wp2_with fail
  refine ⟨trivial, (callsIn_wide.2 (awake_true _)).mono ?_⟩
  rintro e w1 ⟨rfl, hb1⟩
  have HF1 : Hid (Fix w1 w.heap.size (.slice ad len cap) lv (.slice ad2 len2 cap2)) := by
    have h5 := Boxed.new w0 23 (.pointer (some ⟨w.heap.size + 4, 0, none⟩))
    rw [hz0] at h5
    exact (⟨X0.out.1.alloc _, X0.out.2.1.alloc _, X0.out.2.2.1.alloc _, X0.out.2.2.2.alloc _, h5⟩ : Fix (w0.alloc (.cells #[.pointer (some ⟨w.heap.size + 4, 0, none⟩)] 23)) w.heap.size (.slice ad len cap) lv (.slice ad2 len2 cap2)).below hb1
  have HB1 := hide ((HB0.out.alloc (.cells #[.pointer (some ⟨w.heap.size + 4, 0, none⟩)] 23)).below hb1)
  have HL1 := hide (below_ofT (HL0.out.alloc HL0.out.size (.cells #[.pointer (some ⟨w.heap.size + 4, 0, none⟩)] 23)) hb1)
  have c5 := HF1.out.n.cell
  clear hb1 HB0 HL0 X0
  gi_wp2_with fail
  refine wpIn_wide.2 ?_
  clear c5 hz0
  go_loopg [8] len (fun gk u8 wr => ∃ (i : Nat) (v : Value), Hid (gk + i = len) ∧ u8 = .int .i64 (i : Int) ∧ i ≤ len ∧ Hid (Bag 58 w.heap.size wr (w.heap.size + 4) v (goL S i) (i : Int)) ∧ Hid (Fix wr w.heap.size (.slice ad len cap) lv (.slice ad2 len2 cap2)) ∧ Hid (Below w.heap.size w wr))
  case atStart => exact ⟨0, _, (by show len + 0 = len; rfl), rfl, Nat.zero_le _, HB1, HF1, HL1⟩
  case round =>
    obtain ⟨i, v, HK, rfl, hil, HB, HF, HL⟩ := hrel
    clear HB1 HF1 HL1
    have c0 := HF.out.d.cell
    have c5 := HF.out.n.cell
    by_cases hi : i < len
    · have hs' := HD.out.some (by omega)
      subst hs'
      have hc : wr.cell? ⟨ab, ao + i, none⟩ = some (.string (S i)) := (HL.out.cell (HD.out.old (by omega))).trans (HD.out.c i hi)
      have hi3 : (i : Int) < (len : Int) := by omega
      go_wp2_with fail
      go_region_held3 (fun w' => w'.cell? ⟨w.heap.size, 0, none⟩ = some (.slice (some ⟨ab, ao, none⟩) len cap) ∧ w'.cell? ⟨w.heap.size + 5, 0, none⟩ = some (.pointer (some ⟨w.heap.size + 4, 0, none⟩)) ∧ w'.cell? ⟨ab, ao + i, none⟩ = some (.string (S i))) (go_keep) (first
        | (go_at_call 13; refine (send_any HB.out.drew i 0 0 0 (S i) (by omega) (by omega) (by rw [goL_len]; omega)).mono ?_; rintro e w2 ⟨rfl, v2, hB2, hM2⟩; have HB2 : Hid (Bag 58 w.heap.size w2 (w.heap.size + 4) v2 (goL S (i + 1)) ((i + 1 : Nat) : Int)) := (by rw [goL_succ]; exact hB2); have HF2 := hide ((HF.out.heap (W' := wr.drew) rfl).mv HB.out.drew hM2); have HL2 := hide (HL.out.drew.trans (hM2.below HL.out.size HB.out.ftlow)); have d0 := HF2.out.d.cell; have d5 := HF2.out.n.cell; have dc : w2.cell? ⟨ab, ao + i, none⟩ = some (.string (S i)) := (HL2.out.cell (HD.out.old (by omega))).trans (HD.out.c i hi); clear hB2 hM2))
      go_wp2_with fail
      go_roundg (gk - 1)
      case measure => have := HK.out; omega
      case rel => exact ⟨i + 1, v2, (by show gk - 1 + (i + 1) = len; have := HK.out; omega), by go_num, by omega, HB2, HF2, HL2⟩
    · obtain rfl : len = i := by omega
      have b0 : decide ((len : Int) < (len : Int)) = false := by simp
      clear hi HK
      go_wp2_with fail
      gi_wp2_with fail
      refine ⟨trivial, (all_in _ (w.heap.size + 4) _).mono ?_⟩
      rintro e w' ⟨rfl, rfl⟩
      gi_wp2_with fail
      have HBD : Hid (w.heap.size + 5 < wr.heap.size) := HF.out.n.lt
      have HS : Hid (Gs w w.heap.size wr.heap.size (.slice ad len cap) lv (.slice ad2 len2 cap2) 0 v (goL S len) (len : Int) (((wr.alloc (.cells #[.pointer (some ⟨w.heap.size + 4, 0, none⟩)] 23)).alloc (.cells #[.func (.func 28) #[] #[.pointer (some ⟨wr.heap.size, 0, none⟩)]] 43)).alloc (.cells #[.int .i64 0] 3))) := by
        refine ⟨((HF.out.alloc _).alloc _).alloc _, ((Boxed.new wr _ _).alloc _).alloc _, ?_, ?_, ((HB.out.alloc _).alloc _).alloc _, ((HL.out.alloc HL.out.size _).alloc (by simp; exact Nat.le_succ_of_le HL.out.size) _).alloc (by simp; have := HL.out.size; omega) _⟩
        · have := (Boxed.new (wr.alloc (.cells #[.pointer (some ⟨w.heap.size + 4, 0, none⟩)] 23)) 43 (.func (.func 28) #[] #[.pointer (some ⟨wr.heap.size, 0, none⟩)])).alloc (.cells #[.int .i64 0] 3)
          rw [World.size_alloc] at this
          exact this
        · have := Boxed.new ((wr.alloc (.cells #[.pointer (some ⟨w.heap.size + 4, 0, none⟩)] 23)).alloc (.cells #[.func (.func 28) #[] #[.pointer (some ⟨wr.heap.size, 0, none⟩)]] 43)) 3 (.int .i64 0)
          rw [World.size_alloc, World.size_alloc] at this
          exact this
      have SZ : Hid ((((wr.alloc (.cells #[.pointer (some ⟨w.heap.size + 4, 0, none⟩)] 23)).alloc (.cells #[.func (.func 28) #[] #[.pointer (some ⟨wr.heap.size, 0, none⟩)]] 43)).alloc (.cells #[.int .i64 0] 3)).heap.size = wr.heap.size + 3) := by show _ = _; simp only [World.size_alloc]
      simp only [Nat.add_assoc, Nat.reduceAdd]
      generalize (((wr.alloc (.cells #[.pointer (some ⟨w.heap.size + 4, 0, none⟩)] 23)).alloc (.cells #[.func (.func 28) #[] #[.pointer (some ⟨wr.heap.size, 0, none⟩)]] 43)).alloc (.cells #[.int .i64 0] 3)) = Wl at *
      clear HF HB HL c0 c5 b0 hil
      refine wpIn_rangeFunc_ownH rfl (by decide) (gf := 28) (lb := #[.pointer (some ⟨wr.heap.size, 0, none⟩)]) rfl trivial (enters_of Try.func28 (by kernel_rfl) rfl)
        (all_stops 8 (by decide) wr.heap.size (w.heap.size + 4) w.heap.size v (goL S len) (len : Int) (goF w.heap.size wr.heap.size) Wl
          (fun A A' hA hb k _ hf => goF_cell (hb.cell (p := ⟨w.heap.size + 4, 0, none⟩) (by have := SZ.out; have := HBD.out; show w.heap.size + 4 < A.heap.size; omega)) hf)
          (fun A A' hA hA' k hk hf => by
            have h0 := (HS.out.below rfl hA).below rfl hA'
            have h1 := SZ.out; have h2 := hA.size
            rcases goF_bag h0 hf with e | e
            · omega
            · have := (HS.out.bag.ftlt k e).2; omega)
          HS.out.cp.lt HS.out.cp.cell HS.out.bag (by rw [goL_len]; omega))
        Kc.trans
        (fun W k o o' hk ho hc _ => ⟨by simp, fun j p hj hp _ => (World.putObj_heap_other (fun e => by subst e; rw [hj] at ho; injection ho with ho; rw [ho, hc] at hp; cases hp)).trans hj, fun j hj => .inl (goF_cell (by have h1 := SZ.out; have h2 := HBD.out; have h3 : (W.putObj k o').heap[w.heap.size + 4]? = W.heap[w.heap.size + 4]? := World.putObj_heap_other (fun e => by omega); simp only [World.cell?, h3]) hj)⟩) (Below.refl _ _) (fun _ => rfl)
        (fun pre W => pre = List.range pre.length ∧ ∃ v l s, (0 ≤ s ∧ s ≤ (len : Int) + (pre.length : Int) ∧ l.length ≤ len + pre.length) ∧ Gs w w.heap.size wr.heap.size (.slice ad len cap) lv (.slice ad2 len2 cap2) pre.length v l s W)
        (fun c pre W => pre ≠ List.range pre.length ∨ (c = .exit 2 ∧ (pre.length : Int) = lv ∧ ∃ v l s, Gs w w.heap.size wr.heap.size (.slice ad len cap) lv (.slice ad2 len2 cap2) pre.length v l s W))
        (fun pre X Y row hs hg hr => by obtain ⟨h1, v, l, s, h2, h3⟩ := hs; exact ⟨h1, v, l, s, h2, h3.grown (by have := SZ.out; have := HBD.out; omega) (Nat.le_refl _) hg hr⟩)
        (fun c pre X Y row hs hg hr => by
          rcases hs with h | ⟨h1, h2, v, l, s, h3⟩
          · exact .inl h
          · exact .inr ⟨h1, h2, v, l, s, h3.grown (by have := SZ.out; have := HBD.out; omega) (Nat.le_refl _) hg hr⟩)
        ⟨rfl, v, goL S len, len, ⟨by omega, by simp, by rw [goL_len]; simp⟩, HS.out⟩
        (fun x a' W => ∃ Bx, W.heap[Bx]? = some (.cells #[.int .i64 ((goL S len)[x]?.getD dg0).num, .int .i64 ((goL S len)[x]?.getD dg0).fn, .int .i64 ((goL S len)[x]?.getD dg0).fl, .int .i64 ((goL S len)[x]?.getD dg0).tn, .int .i64 ((goL S len)[x]?.getD dg0).tl, .string ((goL S len)[x]?.getD dg0).data] 46 (0, 0)) ∧ a' = { tmps := #[.slice ad len cap, .int .i64 lv, .slice ad2 len2 cap2, .pointer (some ⟨w.heap.size, 0, none⟩), .pointer (some ⟨w.heap.size + 1, 0, none⟩), .pointer (some ⟨w.heap.size + 2, 0, none⟩), .pointer (some ⟨w.heap.size + 3, 0, none⟩), .pointer (some ⟨w.heap.size + 5, 0, none⟩), .int .i64 (len : Int), .pointer (some ⟨wr.heap.size + 1, 0, none⟩), .pointer (some ⟨wr.heap.size + 2, 0, none⟩), .int .i64 (x : Int), .pointer (some ⟨Bx, 0, none⟩), undef, undef, undef, .pointer (some ⟨w.heap.size + 4, 0, none⟩), .bool true, .bool false, .bool false, .pointer (some ⟨w.heap.size + 4, 0, none⟩), .bool false, .bool false, .int .i64 (len : Int), .slice ad len cap, .int .i64 (len : Int), .bool false, u27, u28, u29, u30, u31, u32, u33, u34, u35, u36, u37, .pointer (some ⟨w.heap.size + 4, 0, none⟩), .func (.func 28) #[] #[.pointer (some ⟨wr.heap.size, 0, none⟩)], .func (.func 28) #[] #[.pointer (some ⟨wr.heap.size, 0, none⟩)], .int .i64 (x : Int), ((goL S len)[x]?.getD dg0).val, undef, undef, undef, undef, undef, undef, undef, undef, undef, undef, undef, undef, undef, undef, undef, undef, undef, undef, undef, undef, undef, undef, undef, undef, undef, undef, undef, undef, undef, undef, undef, undef, undef, undef, undef, undef, undef, undef, undef, undef, undef, undef, undef, undef, undef, undef, undef, undef, undef, undef, undef, undef, undef, undef, undef, undef, undef, undef, undef, undef, undef, undef, undef, undef, undef, undef, undef, undef, undef, undef, undef, undef, undef, undef, undef, undef, undef, undef, undef, undef, undef, undef, undef, undef, undef, undef, undef, undef, undef, undef, undef, undef, undef, undef, undef, undef, undef, undef, undef, undef, undef, undef, undef, undef], defers := [] })
        ?hAx ?assign ?body ?done ?stop
      case hAx =>
        rintro x a' _ X Y row ⟨Bx, h2, h3⟩ hg hr
        refine ⟨Bx, (hg.block Bx (lt_of_block h2) (fun e => ?_)).trans h2, h3⟩
        obtain ⟨_, o, ho, hc⟩ := hr Bx e.symm
        rw [h2] at ho
        cases ho
        cases hc
      case assign =>
        rintro k pre x W K ⟨hp, v, l, s, hbd, hgs⟩ hK
        have HGS := hide hgs
        have HP := hide hp
        have HBB := hide hbd
        clear hp hgs hbd
        gi_wp2
        have hB := (Below.refl W.heap.size W).alloc (Nat.le_refl _) (.cells #[.int .i64 ((goL S len)[x]?.getD dg0).num, .int .i64 ((goL S len)[x]?.getD dg0).fn, .int .i64 ((goL S len)[x]?.getD dg0).fl, .int .i64 ((goL S len)[x]?.getD dg0).tn, .int .i64 ((goL S len)[x]?.getD dg0).tl, .string ((goL S len)[x]?.getD dg0).data] 46)
        exact hK _ _ ((KeepsOthers.alloc _ _).from _) (Rnd.below (B := 0) HGS.out.bag.lt hB).kc ⟨HP.out, v, l, s, HBB.out, HGS.out.below rfl hB⟩ ⟨W.heap.size, heap_alloc_new W _, rfl⟩
      case body =>
        rintro kk pre x a' W hk ⟨r, hr⟩ ⟨hp, v, l, s, hbd, hgs⟩ ⟨Bx, hx, rfl⟩ hlt
        rw [goL_len] at hlt
        have HP := hide hp
        have HR := hide hr
        have HBB := hide hbd
        have HGS := hide hgs
        have d0 := hgs.fix.d.cell
        have dk := hgs.kb.cell
        have hs' := HD.out.some (by omega)
        subst hs'
        have hcs : W.cell? ⟨ab, ao + pre.length, none⟩ = some (.string (S pre.length)) := (hgs.low.cell (HD.out.old (by omega))).trans (HD.out.c _ hlt)
        have hge : decide (len ≤ pre.length) = false := by simp; omega
        clear hp hr hbd hgs
        by_cases hxe : x = pre.length
        · subst hxe
          rw [goL_get S len pre.length hlt] at hx ⊢
          obtain ⟨⟨x0, x1, x2, x3, x4, x5⟩, _⟩ := six_of hx
          have HX := hide hx
          clear hx
          refine wpIn_block ?_
          obtain ⟨R1, HR1⟩ : ∃ R : Act → World → Prop, Hid (∀ a W', R a W' ↔ ∃ u43 u44 u45 u46 u47 u48 u49 u50 u51 u52 u53 u54 u55 u56 u57 u58 u59 u60 u61 u62 u63 u64 u65 u66 u67 u68 u69 u70 u71 u72 u73 u74 nq, a = { tmps := #[.slice (some ⟨ab, ao, none⟩) len cap, .int .i64 lv, .slice ad2 len2 cap2, .pointer (some ⟨w.heap.size, 0, none⟩), .pointer (some ⟨w.heap.size + 1, 0, none⟩), .pointer (some ⟨w.heap.size + 2, 0, none⟩), .pointer (some ⟨w.heap.size + 3, 0, none⟩), .pointer (some ⟨w.heap.size + 5, 0, none⟩), .int .i64 (len : Int), .pointer (some ⟨wr.heap.size + 1, 0, none⟩), .pointer (some ⟨wr.heap.size + 2, 0, none⟩), .int .i64 (pre.length : Int), .pointer (some ⟨Bx, 0, none⟩), undef, undef, undef, .pointer (some ⟨w.heap.size + 4, 0, none⟩), .bool true, .bool false, .bool false, .pointer (some ⟨w.heap.size + 4, 0, none⟩), .bool false, .bool false, .int .i64 (len : Int), .slice (some ⟨ab, ao, none⟩) len cap, .int .i64 (len : Int), .bool false, u27, u28, u29, u30, u31, u32, u33, u34, u35, u36, u37, .pointer (some ⟨w.heap.size + 4, 0, none⟩), .func (.func 28) #[] #[.pointer (some ⟨wr.heap.size, 0, none⟩)], .func (.func 28) #[] #[.pointer (some ⟨wr.heap.size, 0, none⟩)], .int .i64 (pre.length : Int), (goD S pre.length).val, u43, u44, u45, u46, u47, u48, u49, u50, u51, u52, u53, u54, u55, u56, u57, u58, u59, u60, u61, u62, u63, u64, u65, u66, u67, u68, u69, u70, u71, u72, u73, u74, undef, undef, undef, undef, undef, undef, undef, undef, undef, undef, undef, undef, undef, undef, undef, undef, undef, undef, undef, undef, undef, undef, undef, undef, undef, undef, undef, undef, undef, undef, undef, undef, undef, undef, undef, undef, undef, undef, undef, undef, undef, undef, undef, undef, undef, undef, undef, undef, undef, undef, undef, undef, undef, undef, undef, undef, undef, undef, undef, undef, undef, undef, undef, undef, undef, undef, undef, undef, undef, undef, undef, undef], defers := [] } ∧ W' = W.drewN nq) := ⟨_, fun _ _ => Iff.rfl⟩
          refine seq_cut R1 ?first ?rest
          case first =>
            have e0 : (goD S pre.length).num = (pre.length : Int) + 1 := rfl
            have e1 : (goD S pre.length).fn = (pre.length : Int) := rfl
            have e5 : (goD S pre.length).data = S pre.length := rfl
            rw [e0] at x0
            rw [e1] at x1
            rw [e5] at x5
            clear e0 e1 e5
            have hlI : (pre.length : Int) < (len : Int) := by omega
            gi_wp2_with fail
            refine quiet_round (by kernel_rfl) (by kernel_rfl) (by kernel_rfl) ?_
            repeat (gi_big_quiet_step (fail))
            refine wpQuietIn_nil ?_
            intro _ hw'
            obtain ⟨nq, hw''⟩ := hw'
            subst hw''
            gi_wp2_with fail
            exact (HR1.out _ _).2 ⟨_, _, _, _, _, _, _, _, _, _, _, _, _, _, _, _, _, _, _, _, _, _, _, _, _, _, _, _, _, _, _, _, nq, rfl, rfl⟩
          case rest =>
            intro a1 W1 hR1
            obtain ⟨u43, u44, u45, u46, u47, u48, u49, u50, u51, u52, u53, u54, u55, u56, u57, u58, u59, u60, u61, u62, u63, u64, u65, u66, u67, u68, u69, u70, u71, u72, u73, u74, nq, rfl, rfl⟩ := (HR1.out a1 W1).1 hR1
            clear hR1 HR1
            have HG1 := hide (HGS.out.drewN nq)
            have HN1 := hide (Rnd.drewN (H := w.heap.size) (C := wr.heap.size) Wl.heap.size W nq)
            have HR' : Hid ((W.drewN nq).heap[kk]? = some (.loop r)) := HR.out
            generalize W.drewN nq = W1 at *
            clear d0 dk hcs x0 x1 x2 x3 x4 x5 HX
            obtain ⟨R2, HR2⟩ : ∃ R : Act → World → Prop, Hid (∀ a W', R a W' ↔ ∃ u13 u75 u76 u77 u78 u79 u80 u81 u82 u83 u84 u85 u86 u87 u88 u89 u90 u91 u92 u93 u94 u95 u96 u97 u98 u99 u100 u101 u102 u103 u104 u105 u106 u107 u108 u109 u110 u111 u112 u113 u114 u115 u116 u117 u118 u119 u120, a = { tmps := #[.slice (some ⟨ab, ao, none⟩) len cap, .int .i64 lv, .slice ad2 len2 cap2, .pointer (some ⟨w.heap.size, 0, none⟩), .pointer (some ⟨w.heap.size + 1, 0, none⟩), .pointer (some ⟨w.heap.size + 2, 0, none⟩), .pointer (some ⟨w.heap.size + 3, 0, none⟩), .pointer (some ⟨w.heap.size + 5, 0, none⟩), .int .i64 (len : Int), .pointer (some ⟨wr.heap.size + 1, 0, none⟩), .pointer (some ⟨wr.heap.size + 2, 0, none⟩), .int .i64 (pre.length : Int), .pointer (some ⟨Bx, 0, none⟩), u13, undef, undef, .pointer (some ⟨w.heap.size + 4, 0, none⟩), .bool true, .bool false, .bool false, .pointer (some ⟨w.heap.size + 4, 0, none⟩), .bool false, .bool false, .int .i64 (len : Int), .slice (some ⟨ab, ao, none⟩) len cap, .int .i64 (len : Int), .bool false, u27, u28, u29, u30, u31, u32, u33, u34, u35, u36, u37, .pointer (some ⟨w.heap.size + 4, 0, none⟩), .func (.func 28) #[] #[.pointer (some ⟨wr.heap.size, 0, none⟩)], .func (.func 28) #[] #[.pointer (some ⟨wr.heap.size, 0, none⟩)], .int .i64 (pre.length : Int), (goD S pre.length).val, u43, u44, u45, u46, u47, u48, u49, u50, u51, u52, u53, u54, u55, u56, u57, u58, u59, u60, u61, u62, u63, u64, u65, u66, u67, u68, u69, u70, u71, u72, u73, u74, u75, u76, u77, u78, u79, u80, u81, u82, u83, u84, u85, u86, u87, u88, u89, u90, u91, u92, u93, u94, u95, u96, u97, u98, u99, u100, u101, u102, u103, u104, u105, u106, u107, u108, u109, u110, u111, u112, u113, u114, u115, u116, u117, u118, u119, u120, undef, undef, undef, undef, undef, undef, undef, undef, undef, undef, undef, undef, undef, undef, undef, undef, undef, undef, undef, undef, undef, undef, undef, undef, undef, undef], defers := [] } ∧ ∃ v' l' s', (0 ≤ s' ∧ s' ≤ (len : Int) + (pre.length : Int) + 1 ∧ l'.length ≤ len + pre.length + 1) ∧ Gs w w.heap.size wr.heap.size (.slice (some ⟨ab, ao, none⟩) len cap) lv (.slice ad2 len2 cap2) pre.length v' l' s' W' ∧ Rnd w.heap.size wr.heap.size Wl.heap.size W W') := ⟨_, fun _ _ => Iff.rfl⟩
            refine seq_cut R2 ?first2 ?rest2
            case first2 =>
              have dk := HG1.out.kb.cell
              have d2 := HG1.out.fix.s.cell
              have d5 := HG1.out.fix.n.cell
              obtain ⟨g1, g2, g3⟩ := HBB.out
              by_cases h2 : pre.length < len2
              · have hs2 := HO.out.some (by omega)
                subst hs2
                have hab := HO.out.old (by omega)
                have h2I : (pre.length : Int) < (len2 : Int) := by omega
                have q0 := (HG1.out.low.cell (p := ⟨ab2, ao2 + pre.length * 8, none⟩) hab).trans (HO.out.c0 _ h2)
                have q2 := (HG1.out.low.cell (p := ⟨ab2, ao2 + pre.length * 8 + 2, none⟩) hab).trans (HO.out.c2 _ h2)
                have q3 := (HG1.out.low.cell (p := ⟨ab2, ao2 + pre.length * 8 + 3, none⟩) hab).trans (HO.out.c3 _ h2)
                have q4 := (HG1.out.low.cell (p := ⟨ab2, ao2 + pre.length * 8 + 4, none⟩) hab).trans (HO.out.c4 _ h2)
                have q5 := (HG1.out.low.cell (p := ⟨ab2, ao2 + pre.length * 8 + 5, none⟩) hab).trans (HO.out.c5 _ h2)
                have q6 := (HG1.out.low.cell (p := ⟨ab2, ao2 + pre.length * 8 + 6, none⟩) hab).trans (HO.out.c6 _ h2)
                have q7 := (HG1.out.low.cell (p := ⟨ab2, ao2 + pre.length * 8 + 7, none⟩) hab).trans (HO.out.c7 _ h2)
                generalize Q pre.length = q at *
                have hHs : w.heap.size ≤ W1.heap.size := HG1.out.low.size
                by_cases hk1 : (q.k == 1) = true
                · gi_wp2_with fail
                  refine round_held (S := fun w' => w'.cell? ⟨w.heap.size + 5, 0, none⟩ = some (.pointer (some ⟨w.heap.size + 4, 0, none⟩)) ∧ w'.cell? ⟨w.heap.size + 2, 0, none⟩ = some (.slice (some ⟨ab2, ao2, none⟩) len2 cap2) ∧ w'.cell? ⟨wr.heap.size + 2, 0, none⟩ = some (.int .i64 (pre.length : Int)) ∧ w'.cell? ⟨ab2, ao2 + pre.length * 8 + 3, none⟩ = some (.int .i64 q.fn) ∧ w'.cell? ⟨ab2, ao2 + pre.length * 8 + 4, none⟩ = some (.int .i64 q.fl) ∧ w'.cell? ⟨ab2, ao2 + pre.length * 8 + 5, none⟩ = some (.int .i64 q.tn) ∧ w'.cell? ⟨ab2, ao2 + pre.length * 8 + 6, none⟩ = some (.int .i64 q.tl) ∧ w'.cell? ⟨ab2, ao2 + pre.length * 8 + 7, none⟩ = some (.string q.data)) (by kernel_rfl) (by kernel_rfl) ⟨d5, d2, dk, q3, q4, q5, q6, q7⟩ (fun hHeld => ?_)
                  clear d5 d2 dk q3 q4 q5 q6 q7
                  refine wpAnyH_take (i := 0) (v := (.pointer (some ⟨w.heap.size + 4, 0, none⟩))) rfl (by kernel_rfl) (by kernel_rfl) (by kernel_rfl) (fun _ _ _ h => good_panic h) (Or.inl ⟨by rfl, fun w1 hSw => by obtain ⟨s0, s1, s2, s3, s4, s5, s6, s7⟩ := hSw; clear hHeld; go_simp⟩) hHeld ?_
                  simp only [Act.put, List.setIfInBounds_toArray]
                  refine wpAnyH_take (i := 1) (v := (.slice (some ⟨ab2, ao2, none⟩) len2 cap2)) rfl (by kernel_rfl) (by kernel_rfl) (by kernel_rfl) (fun _ _ _ h => good_panic h) (Or.inl ⟨by rfl, fun w1 hSw => by obtain ⟨s0, s1, s2, s3, s4, s5, s6, s7⟩ := hSw; clear hHeld; go_simp⟩) hHeld ?_
                  simp only [Act.put]
                  refine wpAnyH_take (i := 2) (v := (.int .i64 (pre.length : Int))) rfl (by kernel_rfl) (by kernel_rfl) (by kernel_rfl) (fun _ _ _ h => good_panic h) (Or.inl ⟨by rfl, fun w1 hSw => by obtain ⟨s0, s1, s2, s3, s4, s5, s6, s7⟩ := hSw; clear hHeld; go_simp⟩) hHeld ?_
                  simp only [Act.put]
                  refine wpAnyH_take (i := 3) (v := (.pointer (some ⟨ab2, ao2 + pre.length * 8, none⟩))) rfl (by kernel_rfl) (by kernel_rfl) (by kernel_rfl) (fun _ _ _ h => good_panic h) (Or.inl ⟨by rfl, fun w1 hSw => by obtain ⟨s0, s1, s2, s3, s4, s5, s6, s7⟩ := hSw; clear hHeld; go_simp⟩) hHeld ?_
                  simp only [Act.put]
                  refine wpAnyH_take (i := 4) (v := (.pointer (some ⟨ab2, ao2 + pre.length * 8 + 3, none⟩))) rfl (by kernel_rfl) (by kernel_rfl) (by kernel_rfl) (fun _ _ _ h => good_panic h) (Or.inl ⟨by rfl, fun w1 hSw => by obtain ⟨s0, s1, s2, s3, s4, s5, s6, s7⟩ := hSw; clear hHeld; go_simp⟩) hHeld ?_
                  simp only [Act.put]
                  refine wpAnyH_take (i := 5) (v := (.agg #[.int .i64 q.fn, .int .i64 q.fl])) rfl (by kernel_rfl) (by kernel_rfl) (by kernel_rfl) (fun _ _ _ h => good_panic h) (Or.inl ⟨by rfl, fun w1 hSw => by obtain ⟨s0, s1, s2, s3, s4, s5, s6, s7⟩ := hSw; clear hHeld; go_simp⟩) hHeld ?_
                  simp only [Act.put]
                  refine wpAnyH_take (i := 6) (v := (.slice (some ⟨ab2, ao2, none⟩) len2 cap2)) rfl (by kernel_rfl) (by kernel_rfl) (by kernel_rfl) (fun _ _ _ h => good_panic h) (Or.inl ⟨by rfl, fun w1 hSw => by obtain ⟨s0, s1, s2, s3, s4, s5, s6, s7⟩ := hSw; clear hHeld; go_simp⟩) hHeld ?_
                  simp only [Act.put]
                  refine wpAnyH_take (i := 7) (v := (.int .i64 (pre.length : Int))) rfl (by kernel_rfl) (by kernel_rfl) (by kernel_rfl) (fun _ _ _ h => good_panic h) (Or.inl ⟨by rfl, fun w1 hSw => by obtain ⟨s0, s1, s2, s3, s4, s5, s6, s7⟩ := hSw; clear hHeld; go_simp⟩) hHeld ?_
                  simp only [Act.put]
                  refine wpAnyH_take (i := 8) (v := (.pointer (some ⟨ab2, ao2 + pre.length * 8, none⟩))) rfl (by kernel_rfl) (by kernel_rfl) (by kernel_rfl) (fun _ _ _ h => good_panic h) (Or.inl ⟨by rfl, fun w1 hSw => by obtain ⟨s0, s1, s2, s3, s4, s5, s6, s7⟩ := hSw; clear hHeld; go_simp⟩) hHeld ?_
                  simp only [Act.put]
                  refine wpAnyH_take (i := 9) (v := (.pointer (some ⟨ab2, ao2 + pre.length * 8 + 5, none⟩))) rfl (by kernel_rfl) (by kernel_rfl) (by kernel_rfl) (fun _ _ _ h => good_panic h) (Or.inl ⟨by rfl, fun w1 hSw => by obtain ⟨s0, s1, s2, s3, s4, s5, s6, s7⟩ := hSw; clear hHeld; go_simp⟩) hHeld ?_
                  simp only [Act.put]
                  refine wpAnyH_take (i := 10) (v := (.agg #[.int .i64 q.tn, .int .i64 q.tl])) rfl (by kernel_rfl) (by kernel_rfl) (by kernel_rfl) (fun _ _ _ h => good_panic h) (Or.inl ⟨by rfl, fun w1 hSw => by obtain ⟨s0, s1, s2, s3, s4, s5, s6, s7⟩ := hSw; clear hHeld; go_simp⟩) hHeld ?_
                  simp only [Act.put]
                  refine wpAnyH_take (i := 11) (v := (.slice (some ⟨ab2, ao2, none⟩) len2 cap2)) rfl (by kernel_rfl) (by kernel_rfl) (by kernel_rfl) (fun _ _ _ h => good_panic h) (Or.inl ⟨by rfl, fun w1 hSw => by obtain ⟨s0, s1, s2, s3, s4, s5, s6, s7⟩ := hSw; clear hHeld; go_simp⟩) hHeld ?_
                  simp only [Act.put]
                  refine wpAnyH_take (i := 12) (v := (.int .i64 (pre.length : Int))) rfl (by kernel_rfl) (by kernel_rfl) (by kernel_rfl) (fun _ _ _ h => good_panic h) (Or.inl ⟨by rfl, fun w1 hSw => by obtain ⟨s0, s1, s2, s3, s4, s5, s6, s7⟩ := hSw; clear hHeld; go_simp⟩) hHeld ?_
                  simp only [Act.put]
                  refine wpAnyH_take (i := 13) (v := (.pointer (some ⟨ab2, ao2 + pre.length * 8, none⟩))) rfl (by kernel_rfl) (by kernel_rfl) (by kernel_rfl) (fun _ _ _ h => good_panic h) (Or.inl ⟨by rfl, fun w1 hSw => by obtain ⟨s0, s1, s2, s3, s4, s5, s6, s7⟩ := hSw; clear hHeld; go_simp⟩) hHeld ?_
                  simp only [Act.put]
                  refine wpAnyH_take (i := 14) (v := (.pointer (some ⟨ab2, ao2 + pre.length * 8 + 7, none⟩))) rfl (by kernel_rfl) (by kernel_rfl) (by kernel_rfl) (fun _ _ _ h => good_panic h) (Or.inl ⟨by rfl, fun w1 hSw => by obtain ⟨s0, s1, s2, s3, s4, s5, s6, s7⟩ := hSw; clear hHeld; go_simp⟩) hHeld ?_
                  simp only [Act.put]
                  refine wpAnyH_take (i := 15) (v := (.string q.data)) rfl (by kernel_rfl) (by kernel_rfl) (by kernel_rfl) (fun _ _ _ h => good_panic h) (Or.inl ⟨by rfl, fun w1 hSw => by obtain ⟨s0, s1, s2, s3, s4, s5, s6, s7⟩ := hSw; clear hHeld; go_simp⟩) hHeld ?_
                  simp only [Act.put]
                  refine wpAnyH_ready (rs := [16]) (by kernel_rfl) (by simp) ?_
                  refine AllReadyH.cons rfl (fun K hK => ?_) AllReadyH.nil
                  go_simp
                  refine (send_any HG1.out.drew.bag q.fn q.fl q.tn q.tl q.data g1 (by omega) (by omega)).mono ?_
                  rintro e w5 ⟨rfl, v', hB, hM⟩
                  have HG2 := hide (HG1.out.drew.mv hHs hB hM)
                  have HN2 := hide (HN1.out.trans ((Rnd.drewN _ W1 1).trans (Rnd.mv HG1.out.drew hB hM)))
                  have hHeld2 := hHeld
                  refine hK.out _ _ ⟨HG2.out.fix.n.cell, HG2.out.fix.s.cell, HG2.out.kb.cell, (HG2.out.low.cell (p := ⟨ab2, ao2 + pre.length * 8 + 3, none⟩) hab).trans ((HG1.out.low.cell (p := ⟨ab2, ao2 + pre.length * 8 + 3, none⟩) hab).symm.trans hHeld2.2.2.2.1), (HG2.out.low.cell (p := ⟨ab2, ao2 + pre.length * 8 + 4, none⟩) hab).trans ((HG1.out.low.cell (p := ⟨ab2, ao2 + pre.length * 8 + 4, none⟩) hab).symm.trans hHeld2.2.2.2.2.1), (HG2.out.low.cell (p := ⟨ab2, ao2 + pre.length * 8 + 5, none⟩) hab).trans ((HG1.out.low.cell (p := ⟨ab2, ao2 + pre.length * 8 + 5, none⟩) hab).symm.trans hHeld2.2.2.2.2.2.1), (HG2.out.low.cell (p := ⟨ab2, ao2 + pre.length * 8 + 6, none⟩) hab).trans ((HG1.out.low.cell (p := ⟨ab2, ao2 + pre.length * 8 + 6, none⟩) hab).symm.trans hHeld2.2.2.2.2.2.2.1), (HG2.out.low.cell (p := ⟨ab2, ao2 + pre.length * 8 + 7, none⟩) hab).trans ((HG1.out.low.cell (p := ⟨ab2, ao2 + pre.length * 8 + 7, none⟩) hab).symm.trans hHeld2.2.2.2.2.2.2.2)⟩ (fun hHeld => ?_)
                  refine wpAnyH_done (by kernel_rfl) ?_ _
                  refine ⟨rfl, ?_⟩
                  clear hHeld hHeld2 hK hB hM
                  try simp only [Act.put]
                  gi_wp2_with fail
                  exact (HR2.out _ _).2 ⟨_, _, _, _, _, _, _, _, _, _, _, _, _, _, _, _, _, _, _, _, _, _, _, _, _, _, _, _, _, _, _, _, _, _, _, _, _, _, _, _, _, _, _, _, _, _, _, rfl, _, _, _, ⟨by omega, by omega, by rw [List.length_append, List.length_singleton]; omega⟩, HG2.out, HN2.out⟩
                · have hk1 : (q.k == 1) = false := by simpa using hk1
                  by_cases hk2 : (q.k == 2) = true
                  · gi_wp2_with fail
                    refine ⟨trivial, (CallsIn.inRound kk (callsIn_wide.2 (take_any (p := q.p) HG1.out.bag))).mono ?_⟩
                    rintro e w5 ⟨rfl, v', hB, hM⟩
                    have HG2 := hide (HG1.out.mv hHs hB hM)
                    have HN2 := hide (HN1.out.trans (Rnd.mv HG1.out hB hM))
                    clear hB hM
                    gi_wp2_with fail
                    exact (HR2.out _ _).2 ⟨_, _, _, _, _, _, _, _, _, _, _, _, _, _, _, _, _, _, _, _, _, _, _, _, _, _, _, _, _, _, _, _, _, _, _, _, _, _, _, _, _, _, _, _, _, _, _, rfl, _, _, _, ⟨g1, by omega, by have := takeL_lenG l q.p; omega⟩, HG2.out, HN2.out⟩
                  · have hk2 : (q.k == 2) = false := by simpa using hk2
                    by_cases hk3 : (q.k == 3) = true
                    · gi_wp2_with fail
                      refine ⟨trivial, (CallsIn.inRound kk (callsIn_wide.2 (drop_any (p := q.p) HG1.out.bag))).mono ?_⟩
                      rintro e w5 ⟨rfl, v', hB, hM⟩
                      have HG2 := hide (HG1.out.mv hHs hB hM)
                      have HN2 := hide (HN1.out.trans (Rnd.mv HG1.out hB hM))
                      clear hB hM
                      gi_wp2_with fail
                      exact (HR2.out _ _).2 ⟨_, _, _, _, _, _, _, _, _, _, _, _, _, _, _, _, _, _, _, _, _, _, _, _, _, _, _, _, _, _, _, _, _, _, _, _, _, _, _, _, _, _, _, _, _, _, _, rfl, _, _, _, ⟨g1, by omega, by have := takeL_lenG l q.p; omega⟩, HG2.out, HN2.out⟩
                    · have hk3 : (q.k == 3) = false := by simpa using hk3
                      have HDD := hide (dup_any (p := q.p) HG1.out.bag g1 (by omega) (by omega))
                      have e1 : (if atE l q.p = 0 then l ++ [{ atD l q.p with num := s + 1 }] else l).length ≤ l.length + 1 := by
                        split
                        · simp
                        · omega
                      have e2 : s ≤ (if atE l q.p = 0 then s + 1 else s) := by split <;> omega
                      have e3 : (if atE l q.p = 0 then s + 1 else s) ≤ s + 1 := by split <;> omega
                      generalize (if atE l q.p = 0 then l ++ [{ atD l q.p with num := s + 1 }] else l) = l' at *
                      generalize (if atE l q.p = 0 then s + 1 else s) = s' at *
                      generalize (if atE l q.p = 0 then s + 1 else 0) = m' at *
                      gi_wp2_with fail
                      refine ⟨trivial, (CallsIn.inRound kk (callsIn_wide.2 HDD.out)).mono ?_⟩
                      rintro e w5 ⟨rfl, v', hB, hM⟩
                      have HG2 := hide (HG1.out.mv hHs hB hM)
                      have HN2 := hide (HN1.out.trans (Rnd.mv HG1.out hB hM))
                      clear hB hM
                      gi_wp2_with fail
                      exact (HR2.out _ _).2 ⟨_, _, _, _, _, _, _, _, _, _, _, _, _, _, _, _, _, _, _, _, _, _, _, _, _, _, _, _, _, _, _, _, _, _, _, _, _, _, _, _, _, _, _, _, _, _, _, rfl, _, _, _, ⟨by omega, by omega, by omega⟩, HG2.out, HN2.out⟩
              · have h2b : decide (pre.length < len2) = false := by simp; omega
                gi_wp2_with fail
                exact (HR2.out _ _).2 ⟨_, _, _, _, _, _, _, _, _, _, _, _, _, _, _, _, _, _, _, _, _, _, _, _, _, _, _, _, _, _, _, _, _, _, _, _, _, _, _, _, _, _, _, _, _, _, _, rfl, _, _, _, ⟨g1, by omega, by omega⟩, HG1.out, HN1.out⟩
            case rest2 =>
              intro a2 W2 hR2
              obtain ⟨u13, u75, u76, u77, u78, u79, u80, u81, u82, u83, u84, u85, u86, u87, u88, u89, u90, u91, u92, u93, u94, u95, u96, u97, u98, u99, u100, u101, u102, u103, u104, u105, u106, u107, u108, u109, u110, u111, u112, u113, u114, u115, u116, u117, u118, u119, u120, rfl, v', l', s', ⟨g1, g2, g3⟩, hG2, hN2⟩ := (HR2.out a2 W2).1 hR2
              clear hR2 HR2 HG1 HN1 HR'
              have HG2 := hide hG2
              have HN2 := hide hN2
              have HRL : Hid ((W2.alloc (.cells #[.int .i64 0] 3)).heap[kk]? = some (.loop r)) := (Below.heap_alloc W2 _ kk (lt_of_block (hN2.ko.same kk _ hk HR.out rfl))).trans (hN2.ko.same kk _ hk HR.out rfl)
              have ov : ∀ o, (W2.alloc o).cell? ⟨wr.heap.size + 1, 0, none⟩ = some (.func (.func 28) #[] #[.pointer (some ⟨wr.heap.size, 0, none⟩)]) := fun o => (hG2.ov.alloc o).cell
              have hIC : wr.heap.size + 2 < W2.heap.size := hG2.kb.lt
              have hIW : W.heap.size ≤ W2.heap.size := hN2.kc.size
              clear hG2 hN2
              gi_wp2_with fail
              have hB3 := (Below.refl W2.heap.size W2).alloc (Nat.le_refl _) (.cells #[.int .i64 0] 3)
              have HG3 := hide (HG2.out.below rfl hB3)
              have HN3 := hide (HN2.out.trans (Rnd.below HG2.out.bag.lt hB3))
              have HI3 := hide (Boxed.new W2 3 (.int .i64 0))
              have SZ3 : Hid ((W2.alloc (.cells #[.int .i64 0] 3)).heap.size = W2.heap.size + 1) := World.size_alloc _ _
              clear hB3 HG2 HN2 ov
              generalize W2.alloc (.cells #[.int .i64 0] 3) = W3 at *
              refine wpIn_rangeFunc_ownN (l₀ := kk) (r₀ := r) rfl HRL.out (by decide) (gf := 28) (lb := #[.pointer (some ⟨wr.heap.size, 0, none⟩)]) rfl trivial (enters_of Try.func28 (by kernel_rfl) rfl)
                ((all_stops 6 (by decide) wr.heap.size (w.heap.size + 4) w.heap.size v' l' s' (fun _ k => k = W2.heap.size) W3 (fun _ _ _ _ _ _ h => h) (fun A A' hA hA' k hk e => by have h1 := hA.size; have h2 := SZ3.out; omega) HG3.out.cp.lt HG3.out.cp.cell HG3.out.bag (by omega)).inRound kk)
                Kc.trans (fun X k o o' hk ho hc _ => ⟨by simp, fun j p hj hp _ => (World.putObj_heap_other (fun e => by subst e; rw [hj] at ho; injection ho with ho; rw [ho, hc] at hp; cases hp)).trans hj, fun _ h => .inl h⟩) (Below.refl _ _) (fun _ => rfl)
                (fun pre2 W4 => pre2 = List.range pre2.length ∧ Boxed W4 W2.heap.size 3 (.int .i64 (pre2.length : Int)) ∧ Gs w w.heap.size wr.heap.size (.slice (some ⟨ab, ao, none⟩) len cap) lv (.slice ad2 len2 cap2) pre.length v' l' s' W4 ∧ Rnd w.heap.size wr.heap.size Wl.heap.size W W4)
                (fun _ pre2 _ => pre2 ≠ List.range pre2.length)
                (fun pre2 X Y row hs hg hr => by
                  obtain ⟨h1, h2, h3, h4⟩ := hs
                  have hz := SZ3.out
                  have hz2 := HBD.out
                  refine ⟨h1, h2.kept hg (fun e => ?_), h3.grown (by omega) (Nat.le_refl _) hg hr, h4.grown h3.bag.lt (by omega) ⟨_, h3.bag.blk, rfl⟩ hg hr⟩
                  obtain ⟨_, o, ho, hc⟩ := hr _ e.symm
                  rw [show X.heap[W2.heap.size]? = _ from h2] at ho
                  cases ho
                  cases hc)
                (fun _ => ownFrom_pure _ _)
                ⟨rfl, HI3.out, HG3.out, HN3.out⟩
                (fun x2 a' _ => a' = { tmps := #[.slice (some ⟨ab, ao, none⟩) len cap, .int .i64 lv, .slice ad2 len2 cap2, .pointer (some ⟨w.heap.size, 0, none⟩), .pointer (some ⟨w.heap.size + 1, 0, none⟩), .pointer (some ⟨w.heap.size + 2, 0, none⟩), .pointer (some ⟨w.heap.size + 3, 0, none⟩), .pointer (some ⟨w.heap.size + 5, 0, none⟩), .int .i64 (len : Int), .pointer (some ⟨wr.heap.size + 1, 0, none⟩), .pointer (some ⟨wr.heap.size + 2, 0, none⟩), .int .i64 (pre.length : Int), .pointer (some ⟨Bx, 0, none⟩), u13, .pointer (some ⟨W2.heap.size, 0, none⟩), .int .i64 (x2 : Int), .pointer (some ⟨w.heap.size + 4, 0, none⟩), .bool true, .bool false, .bool false, .pointer (some ⟨w.heap.size + 4, 0, none⟩), .bool false, .bool false, .int .i64 (len : Int), .slice (some ⟨ab, ao, none⟩) len cap, .int .i64 (len : Int), .bool false, u27, u28, u29, u30, u31, u32, u33, u34, u35, u36, u37, .pointer (some ⟨w.heap.size + 4, 0, none⟩), .func (.func 28) #[] #[.pointer (some ⟨wr.heap.size, 0, none⟩)], .func (.func 28) #[] #[.pointer (some ⟨wr.heap.size, 0, none⟩)], .int .i64 (pre.length : Int), (goD S pre.length).val, u43, u44, u45, u46, u47, u48, u49, u50, u51, u52, u53, u54, u55, u56, u57, u58, u59, u60, u61, u62, u63, u64, u65, u66, u67, u68, u69, u70, u71, u72, u73, u74, u75, u76, u77, u78, u79, u80, u81, u82, u83, u84, u85, u86, u87, u88, u89, u90, u91, u92, u93, u94, u95, u96, u97, u98, u99, u100, u101, u102, u103, u104, u105, u106, u107, u108, u109, u110, u111, u112, u113, u114, u115, u116, u117, u118, u119, u120, .func (.func 28) #[] #[.pointer (some ⟨wr.heap.size, 0, none⟩)], .int .i64 (x2 : Int), (l'[x2]?.getD dg0).val, undef, undef, undef, undef, undef, undef, undef, undef, undef, undef, undef, undef, undef, undef, undef, undef, undef, undef, undef, undef, undef, undef, undef], defers := [] })
                (fun _ _ _ _ _ _ hs _ _ => hs) ?assign2 ?body2 ?done2 ?stop2
              case assign2 =>
                rintro k2 pre2 x2 W4 K hI hK
                gi_wp2
                exact hK _ _ (KeepsFrom.refl _ _) ⟨Nat.le_refl _, fun _ _ h _ _ => h, fun _ h => .inl h⟩ hI rfl
              case body2 =>
                rintro k2 pre2 x2 a' W4 hk2 _ ⟨hp2, hbx, hgs4, hrn4⟩ rfl hlt2
                have HP2 := hide hp2
                have HG4 := hide hgs4
                have HN4 := hide hrn4
                have HX4 := hide hbx
                have di := hbx.cell
                have fi := hbx.frozen
                have d3 := hgs4.fix.r.cell
                have f3 := hgs4.fix.r.frozen
                clear hp2 hbx hgs4 hrn4
                by_cases hxe : x2 = pre2.length
                · subst hxe
                  gi_wp2_with fail
                  refine ⟨(KeepsOthers.setCell _ _ _).from _, ⟨(KeepsOthers.setCell W4 _ _).size, fun j p hj _ hn => (Below.heap_setCell W4 ⟨W2.heap.size, 0, none⟩ _ j hn).trans hj, fun _ h => .inl h⟩, ?_, ?_, HG4.out.other (by have := HBD.out; omega) hIC HX4.out (by decide) _, HN4.out.oset hIW (by have := HBD.out; omega) _⟩
                  · rw [List.length_append, List.length_singleton, List.range_succ, ← HP2.out]
                  · have := HX4.out.set (.int .i64 ((pre2.length : Int) + 1))
                    rw [List.length_append, List.length_singleton]
                    exact this
                · have hne1 : ((x2 : Int) != (pre2.length : Int)) = true := by simp; omega
                  have hne2 : (x2 == pre2.length) = false := by simp; exact hxe
                  have HXE := hide hxe
                  gi_wp2_with fail
                  refine ⟨(KeepsOthers.setCell _ _ _).from _, fun e => ?_⟩
                  rw [List.length_append, List.length_singleton, List.range_succ, ← HP2.out] at e
                  have := List.append_cancel_left e
                  simp at this
                  exact HXE.out this
              case done2 =>
                rintro ys W5 rfl ⟨_, hbx, hgs5, hrn5⟩
                rw [List.length_range] at hbx
                have HG5 := hide hgs5
                have HN5 := hide hrn5
                have di := hbx.cell
                have d5 := hgs5.fix.n.cell
                have bq : ((l'.length : Int) != (l'.length : Int)) = false := by simp
                have hfw : ∀ f, Fence.wide.fn f := fun _ => trivial
                clear hbx hgs5 hrn5
                gi_wp2_with fail
                refine quiet_round (by kernel_rfl) (by kernel_rfl) (by kernel_rfl) ?_
                repeat (gi_big_quiet_step ((gi_at_call 18; exact CallsIn.quiet_of_same (CallsIn.inRound kk (callsIn_wide.2 (len_any (HG5.out.bag.keep (w' := W5.drewN _) (fun _ _ => rfl))))))))
                refine wpQuietIn_nil ?_
                intro _ hw'
                obtain ⟨nq, hw''⟩ := hw'
                subst hw''
                have HG6 := hide (HG5.out.drewN nq)
                have HN6 := hide (HN5.out.trans (Rnd.drewN _ W5 nq))
                generalize W5.drewN nq = W6 at *
                clear di d5 bq HG5 HN5
                have dk := HG6.out.kb.cell
                have fk := HG6.out.kb.frozen
                have dl := HG6.out.fix.l.cell
                have hne : wr.heap.size + 2 ≠ w.heap.size + 1 := by have := HBD.out; omega
                have hGf := HG6.out.kset (by have := HBD.out; omega) (pre.length + 1)
                have hNf := HN6.out.trans (Rnd.kset (W := W6) (B := Wl.heap.size) (H := w.heap.size) (C := wr.heap.size) (by have := HBD.out; omega) (.int .i64 ((pre.length + 1 : Nat) : Int)))
                have HGF := hide hGf
                have HNF := hide hNf
                clear hGf hNf
                have hpl : (pre ++ [pre.length]).length = pre.length + 1 := by simp
                by_cases hlv : ((pre.length : Int) + 1 == lv) = true
                · gi_wp2_with fail
                  refine ⟨HNF.out.ko, .inr ⟨rfl, ?_, v', l', s', ?_⟩⟩
                  · rw [hpl]
                    have := eq_of_beq hlv
                    omega
                  · rw [hpl]
                    exact HGF.out
                · have hlv : ((pre.length : Int) + 1 == lv) = false := by simpa using hlv
                  gi_wp2_with fail
                  refine ⟨HNF.out.ko, HNF.out.kc, ?_, v', l', s', ⟨g1, ?_, ?_⟩, ?_⟩
                  · rw [hpl, List.range_succ, ← HP.out]
                  · rw [hpl]; omega
                  · rw [hpl]; omega
                  · rw [hpl]
                    exact HGF.out
              case stop2 =>
                rintro c pre2 W5 ⟨k, hk, rfl⟩ h
                exact absurd (by simp) h
        · have hne1 : ((x : Int) != (pre.length : Int)) = true := by simp; omega
          have hne2 : (x == pre.length) = false := by simp; exact hxe
          have HXE := hide hxe
          have f3 := HGS.out.fix.r.frozen
          have d3 := HGS.out.fix.r.cell
          clear hx
          gi_wp2_with fail
          refine quiet_round (by kernel_rfl) (by kernel_rfl) (by kernel_rfl) ?_
          repeat (gi_big_quiet_step (fail))
          refine wpQuietIn_nil ?_
          intro _ hw'
          obtain ⟨nq, hw''⟩ := hw'
          subst hw''
          gi_wp2_with fail
          refine ⟨((⟨Nat.le_refl _, fun _ _ h _ => h⟩ : KeepsOthers W (W.drewN nq)).trans (KeepsOthers.setCell _ _ _)).from _, .inl fun e => ?_⟩
          rw [List.length_append, List.length_singleton, List.range_succ, ← HP.out] at e
          have := List.append_cancel_left e
          simp at this
          exact HXE.out this
      case done =>
        rintro D ys W hD rfl ⟨_, v, l, s, _, hgs⟩ hK
        rw [List.length_range, goL_len] at hgs
        have HGS := hide hgs
        have HK := hide hK
        have d0 := hgs.fix.d.cell
        have dk := hgs.kb.cell
        have d3 := hgs.fix.r.cell
        have f3 := hgs.fix.r.frozen
        clear hgs hK
        gi_wp2_with fail
        have hBt : Below w.heap.size w (W.setCell ⟨w.heap.size + 3, 0, none⟩ (.bool true)) := HGS.out.low.setCell (p := ⟨w.heap.size + 3, 0, none⟩) (by simp) _
        have hK' : (W.setCell ⟨w.heap.size + 3, 0, none⟩ (.bool true)).heap[D]? = some (.deferred (some [])) := (KeepsOthers.setCell W ⟨w.heap.size + 3, 0, none⟩ (.bool true)).same D _ HK.out rfl
        refine ⟨by simp, .inl ⟨_, _, rfl, run_takeDeferred hK', ?_⟩⟩
        have h4 : Boxed (W.setCell ⟨w.heap.size + 3, 0, none⟩ (.bool true)) (w.heap.size + 3) 4 (.bool true) := HGS.out.fix.r.set (.bool true)
        have hc5 := cell_kept h4.cell (grownBy_putObj' _ D (.deferred none)) (fun r e => by cases e; exact ⟨_, hK', rfl⟩)
        refine ⟨.bool true, ?_, rfl, hBt.trans (belowK_b (w := w) (Nat.le_refl _) _ D _ _ (by have := SZ.out; have := HBD.out; omega) hK' rfl rfl)⟩
        simp [results, Try.f4, go_sem, hc5]
      case stop =>
        rintro D c pre W hD ⟨k, hk, rfl⟩ h hK
        rcases h with h | ⟨rfl, hlv, v, l, s, hgs⟩
        · exact absurd (by simp) h
        rw [List.length_range] at hgs hlv
        rw [goL_len] at hk
        have HGS := hide hgs
        have HK := hide hK
        have d0 := hgs.fix.d.cell
        have d1 := hgs.fix.l.cell
        have dk := hgs.kb.cell
        have d3 := hgs.fix.r.cell
        have f3 := hgs.fix.r.frozen
        rw [← hlv] at d1
        have hne : wr.heap.size + 2 ≠ w.heap.size + 3 := by have := HBD.out; omega
        clear hgs hK hlv
        by_cases hkl : k = len
        · subst hkl
          gi_wp2_with fail
          have hBt : Below w.heap.size w (W.setCell ⟨w.heap.size + 3, 0, none⟩ (.bool true)) := HGS.out.low.setCell (p := ⟨w.heap.size + 3, 0, none⟩) (by simp) _
          have hK' : (W.setCell ⟨w.heap.size + 3, 0, none⟩ (.bool true)).heap[D]? = some (.deferred (some [])) := (KeepsOthers.setCell W ⟨w.heap.size + 3, 0, none⟩ (.bool true)).same D _ HK.out rfl
          refine ⟨by simp, .inl ⟨_, _, rfl, run_takeDeferred hK', ?_⟩⟩
          have h4 : Boxed (W.setCell ⟨w.heap.size + 3, 0, none⟩ (.bool true)) (w.heap.size + 3) 4 (.bool true) := HGS.out.fix.r.set (.bool true)
          have hc5 := cell_kept h4.cell (grownBy_putObj' _ D (.deferred none)) (fun r e => by cases e; exact ⟨_, hK', rfl⟩)
          refine ⟨.bool true, ?_, rfl, hBt.trans (belowK_b (w := w) (Nat.le_refl _) _ D _ _ (by have := SZ.out; have := HBD.out; omega) hK' rfl rfl)⟩
          simp [results, Try.f4, go_sem, hc5]
        · have hq : ((k : Int) == (len : Int)) = false := by rw [beq_eq_false_iff_ne]; omega
          have hq2 : (k == len) = false := by rw [beq_eq_false_iff_ne]; exact hkl
          gi_wp2_with fail
          have hBt : Below w.heap.size w (W.setCell ⟨w.heap.size + 3, 0, none⟩ (.bool true)) := HGS.out.low.setCell (p := ⟨w.heap.size + 3, 0, none⟩) (by simp) _
          have hK' : (W.setCell ⟨w.heap.size + 3, 0, none⟩ (.bool true)).heap[D]? = some (.deferred (some [])) := (KeepsOthers.setCell W ⟨w.heap.size + 3, 0, none⟩ (.bool true)).same D _ HK.out rfl
          refine ⟨by simp, .inl ⟨_, _, rfl, run_takeDeferred hK', ?_⟩⟩
          have h4 : Boxed (W.setCell ⟨w.heap.size + 3, 0, none⟩ (.bool true)) (w.heap.size + 3) 4 (.bool true) := HGS.out.fix.r.set (.bool true)
          have hc5 := cell_kept h4.cell (grownBy_putObj' _ D (.deferred none)) (fun r e => by cases e; exact ⟨_, hK', rfl⟩)
          refine ⟨.bool true, ?_, rfl, hBt.trans (belowK_b (w := w) (Nat.le_refl _) _ D _ _ (by have := SZ.out; have := HBD.out; omega) hK' rfl rfl)⟩
          simp [results, Try.f4, go_sem, hc5]
end Go.Proofs.Ytnbmgddkaclneaa
