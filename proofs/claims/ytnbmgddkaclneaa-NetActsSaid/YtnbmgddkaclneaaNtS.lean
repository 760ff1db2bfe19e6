import Derived.Test.YtnbmgddkaclneaaNtR
import Derived.Test.YtnbmgddkaclneaaNtI
import Derived.Deep.DeepCutAuto
import Derived.Deep.CutBlock
import Derived.Deep.LoopGhost
namespace Go.Proofs.Ytnbmgddkaclneaa
open Go.RowKit

theorem below_of' {w W w' : World} (h : Below w.heap.size w W) (k : Below W.heap.size W w') : Below w.heap.size w w' := h.trans ((Mv.of_below (F := fun _ => False) k).below h.size (fun _ x => x.elim))
/-- the bounds of what the bags hold -/
def Bd (S : List St) (m : Nat) : Prop := ∀ x ∈ S, x.l.length ≤ m ∧ 0 ≤ x.s ∧ x.s ≤ (m : Int)
theorem Bd.set {S : List St} {m k : Nat} {y : St} (h : Bd S m) (h1 : y.l.length ≤ m + 1) (h2 : 0 ≤ y.s) (h3 : y.s ≤ (m : Int) + 1) : Bd (S.set k y) (m + 1) := fun x hx => by
  rcases mem_set hx with rfl | hx
  · exact ⟨h1, h2, by omega⟩
  · have := h x hx; exact ⟨by omega, this.2.1, by omega⟩
theorem Bd.app {S : List St} {m : Nat} {y : St} (h : Bd S m) (h1 : y.l.length ≤ m) (h2 : 0 ≤ y.s) (h3 : y.s ≤ (m : Int)) : Bd (S ++ [y]) (m + 1) := fun x hx => by
  rcases List.mem_append.1 hx with hx | hx
  · have := h x hx; exact ⟨by omega, this.2.1, by omega⟩
  · simp at hx; subst hx; exact ⟨by omega, h2, by omega⟩

theorem does_any {base : Nat} {w : World} {b b2 : Nat} {v v2 : Value} {l : List Dg} {s : Int} (h : Two base w b v l s b2 v2 l s) (hs0 : 0 ≤ s) (hs : s < 9223372036854775807) (hl : (l.length + 1) * 56 ≤ 140737488355328) (q : OpV) :
    Calls Try.prog 11 #[.pointer (some ⟨b, 0, none⟩), .pointer (some ⟨b2, 0, none⟩), .agg #[.int .i64 q.k, .int .i64 q.on, .int .i64 q.p, .int .i64 q.fn, .int .i64 q.fl, .int .i64 q.tn, .int .i64 q.tl, .string q.data]] w fun e w' => e = .returned (.bool true) ∧ DPost base w b v l s b2 v2 w' := by
  by_cases h1 : (q.k == 1) = true
  · exact does_send h hs0 hs hl q h1
  have h1 : (q.k == 1) = false := by simpa using h1
  by_cases h2 : (q.k == 2) = true
  · exact does_take h hl q h1 h2
  have h2 : (q.k == 2) = false := by simpa using h2
  by_cases h3 : (q.k == 3) = true
  · exact does_drop h hl q h1 h2 h3
  have h3 : (q.k == 3) = false := by simpa using h3
  by_cases h4 : (q.k == 4) = true
  · exact does_dup h hs0 hs hl q h1 h2 h3 h4
  have h4 : (q.k == 4) = false := by simpa using h4
  by_cases h5 : (q.k == 5) = true
  · exact does_at h q h1 h2 h3 h4 h5
  have h5 : (q.k == 5) = false := by simpa using h5
  exact does_same h hl q h1 h2 h3 h4 h5

theorem own_one {W : World} {base g : Nat} {t : TypeId} {v : Value} (h : Boxed W g t v) (hb : base ≤ g) : W.ownsRow base t 1 (.slice (some ⟨g, 0, none⟩) 1 1) 1 [v] :=
  ⟨rfl, .inr ⟨g, 1, #[v], rfl, hb, h, Nat.le_refl _, by decide, rfl, rfl⟩⟩
theorem memA_start {base : Nat} {W : World} {b b2 gl ga : Nat} (h1 : Bag 58 base W b (.slice none 0 0) [] 0) (h2 : Bag 30 base W b2 (.slice none 0 0) [] 0) (h3 : Boxed W gl 23 (.pointer (some ⟨b, 0, none⟩))) (h4 : Boxed W ga 27 (.pointer (some ⟨b2, 0, none⟩)))
    (n1 : b ≠ b2) (n2 : b ≠ gl) (n3 : b ≠ ga) (n4 : b2 ≠ gl) (n5 : b2 ≠ ga) (n6 : gl ≠ ga) (h5 : base ≤ gl) (h6 : base ≤ ga) : MemA base W gl 1 ga 1 1 [⟨b, .slice none 0 0, b2, .slice none 0 0, [], 0⟩] := by
  have ft : ∀ (c k : Nat), Ft c (.slice none 0 0) k → k = c := fun c k h => h.elim id (fun e => by simp [Value.ownBlock] at e)
  refine ⟨rfl, own_one h3 h5, own_one h4 h6, fun x hx => ?_, fun i j x y hx hy hij => ?_, fun x hx => ?_, n6⟩
  · simp at hx; subst hx
    exact ⟨h1, h2, fun k hk hk2 => n1 ((ft _ _ hk).symm.trans (ft _ _ hk2))⟩
  · have hi : i = 0 := by have := (List.getElem?_eq_some_iff.1 hx).1; simp at this; exact this
    have hj : j = 0 := by have := (List.getElem?_eq_some_iff.1 hy).1; simp at this; exact this
    exact absurd (hi.trans hj.symm) hij
  · simp at hx; subst hx
    refine ⟨fun hf => ?_, fun hf => ?_⟩
    · rcases hf with hf | hf
      · exact n2 (ft _ _ hf).symm
      · exact n4 (ft _ _ hf).symm
    · rcases hf with hf | hf
      · exact n3 (ft _ _ hf).symm
      · exact n5 (ft _ _ hf).symm

set_option maxHeartbeats 4000000 in
set_option maxRecDepth 8000 in
theorem netActs_walk (ad : Option Addr) (ab ao len cap : Nat) (Q : Nat → OpV) (w : World) (hO : Ops w ad len ab ao Q) (hlen : len * 72 ≤ 140737488351232) :
    Calls Try.prog 3 #[.slice ad len cap] w fun e w' => e = .returned (.bool true) ∧ Below w.heap.size w w' := by
  go_enter Try.func3, Try.ntmps3
  go_wp2_with fail
  refine (new_any w).mono ?_
  rintro e w0 ⟨rfl, hw1⟩
  have HB0 : Hid (Bag 58 w.heap.size w0 w.heap.size (.slice none 0 0) [] 0) := by rw [hw1]; exact Bag.new _ _ _ (Nat.le_refl _)
  have HL0 : Hid (Below w.heap.size w w0) := by rw [hw1]; exact (Below.refl _ w).alloc (Nat.le_refl _) _
  have hz0 : w0.heap.size = w.heap.size + 1 := by rw [hw1, World.size_alloc]
  clear hw1
  go_wp2_with fail
  refine (awake_true _).mono ?_
  rintro e w1 ⟨rfl, hb1⟩
  have HB1 := hide ((HB0.out.alloc (.cells #[.pointer (some ⟨w.heap.size, 0, none⟩)] 23)).below hb1)
  have HL1 := hide (below_of' (HL0.out.alloc HL0.out.size (.cells #[.pointer (some ⟨w.heap.size, 0, none⟩)] 23)) hb1)
  have HR1 : Hid (Boxed w1 (w.heap.size + 1) 23 (.pointer (some ⟨w.heap.size, 0, none⟩))) := by
    have h1 := Boxed.new w0 23 (.pointer (some ⟨w.heap.size, 0, none⟩))
    rw [hz0] at h1
    exact (hb1.block _ h1.lt).trans h1
  have hc1 := HR1.out.cell
  clear hb1 HB0 HL0
  have HO := hide hO
  clear hO
  go_wp2_with fail
  have HM2 : Hid (MemA w.heap.size ((w1.alloc (.cells #[.slice none 0 0, .int .i64 0] 30)).alloc (.cells #[.pointer (some ⟨w1.heap.size, 0, none⟩)] 27)) (w.heap.size + 1) 1 (w1.heap.size + 1) 1 1 [⟨w.heap.size, .slice none 0 0, w1.heap.size, .slice none 0 0, [], 0⟩]) := by
    have hlt := HR1.out.lt
    refine memA_start ((HB1.out.alloc _).alloc _) ((Bag.new _ w1 w.heap.size (by omega)).alloc _) ((HR1.out.alloc _).alloc _) (by have := Boxed.new (w1.alloc (.cells #[.slice none 0 0, .int .i64 0] 30)) 27 (.pointer (some ⟨w1.heap.size, 0, none⟩)); rw [World.size_alloc] at this; exact this) ?_ ?_ ?_ ?_ ?_ ?_ ?_ ?_ <;> omega
  have HL2 := hide ((HL1.out.alloc HL1.out.size (.cells #[.slice none 0 0, .int .i64 0] 30)).alloc (by rw [World.size_alloc]; exact Nat.le_succ_of_le HL1.out.size) (.cells #[.pointer (some ⟨w1.heap.size, 0, none⟩)] 27))
  clear HB1 HL1 HR1 hc1 hz0
  go_loopg [3, 4, 5] len (fun gk u3 u4 u5 wr => ∃ (i gl cl ga ca n : Nat) (S : List St), Hid (gk + i = len) ∧ u3 = .slice (some ⟨gl, 0, none⟩) n cl ∧ u4 = .slice (some ⟨ga, 0, none⟩) n ca ∧ u5 = .int .i64 (i : Int) ∧ i ≤ len ∧ n ≤ i + 1 ∧ 1 ≤ n ∧ Hid (MemA w.heap.size wr gl cl ga ca n S) ∧ Hid (Bd S i) ∧ Hid (Below w.heap.size w wr))
  case atStart => exact ⟨0, _, _, _, _, 1, _, (by show len + 0 = len; rfl), rfl, rfl, rfl, Nat.zero_le _, Nat.le_refl _, Nat.le_refl _, HM2, (fun x hx => by simp at hx; subst hx; exact ⟨Nat.le_refl _, Int.le_refl _, Int.le_refl _⟩), HL2⟩
  case round =>
    obtain ⟨i, gl, cl, ga, ca, n, S, HK, rfl, rfl, rfl, hil, hni, hn1, HM, HBd, HL⟩ := hrel
    clear HM2 HL2
    by_cases hi : i < len
    · have hs' := HO.out.some (by omega)
      subst hs'
      have hi3 : (i : Int) < (len : Int) := by omega
      have hab := HO.out.old (by omega)
      have q0 := (HL.out.cell (p := ⟨ab, ao + i * 8, none⟩) hab).trans (HO.out.c0 i hi)
      have q1 := (HL.out.cell (p := ⟨ab, ao + i * 8 + 1, none⟩) hab).trans (HO.out.c1 i hi)
      have q2 := (HL.out.cell (p := ⟨ab, ao + i * 8 + 2, none⟩) hab).trans (HO.out.c2 i hi)
      have q3 := (HL.out.cell (p := ⟨ab, ao + i * 8 + 3, none⟩) hab).trans (HO.out.c3 i hi)
      have q4 := (HL.out.cell (p := ⟨ab, ao + i * 8 + 4, none⟩) hab).trans (HO.out.c4 i hi)
      have q5 := (HL.out.cell (p := ⟨ab, ao + i * 8 + 5, none⟩) hab).trans (HO.out.c5 i hi)
      have q6 := (HL.out.cell (p := ⟨ab, ao + i * 8 + 6, none⟩) hab).trans (HO.out.c6 i hi)
      have q7 := (HL.out.cell (p := ⟨ab, ao + i * 8 + 7, none⟩) hab).trans (HO.out.c7 i hi)
      have hon := HO.out.bon i hi
      generalize Q i = q at *
      go_upto_region 9 with fail
      have ht1 : q.on.tmod (n : Int) < (n : Int) := Int.tmod_lt_of_pos _ (by omega)
      have ht2 : -(n : Int) < q.on.tmod (n : Int) := Int.lt_tmod_of_pos _ (by omega)
      generalize q.on.tmod (n : Int) = t at *
      go_upto_if 36 with fail
      go_cut [6] (fun u6 wc => ∃ k : Nat, u6 = .int .i64 (k : Int) ∧ k < n ∧ wc = wr)
      case first =>
        by_cases h0 : t < 0
        · go_wp2_with fail
          go_meet
          case rel => exact ⟨(t + n).toNat, by congr 1; omega, by omega, rfl⟩
        · go_wp2_with fail
          go_meet
          case rel => exact ⟨t.toNat, by congr 1; omega, by omega, rfl⟩
      case rest =>
        obtain ⟨k, rfl, hk, rfl⟩ := hcut
        clear ht1 ht2
        obtain ⟨x, hx⟩ : ∃ x, S[k]? = some x := ⟨_, List.getElem?_eq_getElem (by rw [HM.out.len]; exact hk)⟩
        have HX := hide hx
        have hxm := hide (List.mem_of_getElem? hx)
        obtain ⟨m0, m1⟩ := HM.out.cells hx
        have hkI : (k : Int) < (n : Int) := by omega
        obtain ⟨bd1, bd2, bd3⟩ := HBd.out x hxm.out
        have HAT := hide (HM.out.each x hxm.out)
        clear hx
        by_cases hk6 : (q.k == 6) = true
        · go_wp2_with fail
          refine (nclone_any HAT.out.n (by omega)).mono ?_
          rintro e w2 ⟨b', v', rfl, hB, hb2⟩
          have HL2 := hide hb2
          have HB2 := hide hB
          have HM2 := hide (HM.out.below hb2)
          clear hB hb2
          obtain ⟨i0, hi0, hz0, hz1, hz2⟩ := info_parts Try.infoN
          go_upto_region 13 with (at_builtin; refine wpList_append_lies _ rfl _ _ 25 rfl w.heap.size 23 i0 (.pointer none) 1 8 Try.underlying25 hi0 hz0 hz1 hz2 rfl (by decide) (.slice (some ⟨gl, 0, none⟩) n cl) n (ptrs S) rfl (HM2.out.lrow.alloc _) ⟨w2.heap.size, 0, none⟩ 1 1 [.pointer (some ⟨b', 0, none⟩)] rfl rfl (World.news_of_block (cs := #[.pointer (some ⟨b', 0, none⟩)]) (heap_alloc_new w2 _)) (by simp [Value.oneCell']) (by decide) (by unfold maxLen; omega) (by omega) (by rw [World.size_alloc]; have := HL.out.size; have := HL2.out.size; omega) (w2.heap.size + 1) (World.size_alloc _ _) ?_; intro g6 c6 w6 hown6 hgrow6 hat6 hlt6)
          have HL6 := hide ((below_of' HL.out HL2.out |>.alloc (below_of' HL.out HL2.out).size (.cells #[.pointer (some ⟨b', 0, none⟩)] 23)).grown hgrow6 (by rw [World.size_alloc]; exact Nat.le_succ_of_le (below_of' HL.out HL2.out).size) (fun j hj => by simp only [Value.ownBlock] at hj; injection hj with hj; rw [← hj]; exact (HM2.out.lrow.lt gl rfl).1))
          have HA6 : Hid (Bag 30 w.heap.size w6 x.b2 x.v2 x.l x.s) := (HM2.out.each x hxm.out).r.keep fun j hj => by
            have hlt := ((HM2.out.each x hxm.out).r.ftlt j hj).2
            rw [hgrow6.block j (by rw [World.size_alloc]; omega) (fun e => by simp only [Value.ownBlock] at e; injection e with e; exact (HM2.out.nl x hxm.out).1 (by rw [← e]; exact .inr hj)), Below.heap_alloc w2 _ j hlt]
          have HR6 : Hid (w6.ownsRow w.heap.size 27 1 (.slice (some ⟨ga, 0, none⟩) n ca) n (ptrs2 S)) := own_same HM2.out.arow (by
            have hlt := (HM2.out.arow.lt ga rfl).2
            rw [hgrow6.block ga (by rw [World.size_alloc]; omega) (fun e => by simp only [Value.ownBlock] at e; injection e with e; exact HM2.out.ne e.symm), Below.heap_alloc w2 _ ga hlt])
          have m6 : w6.cell? ⟨ga, k, none⟩ = some (.pointer (some ⟨x.b2, 0, none⟩)) := by
            have h2 := HR6.out.cells (g := ga) rfl k (.pointer (some ⟨x.b2, 0, none⟩)) (by simp [ptrs2, HX.out])
            rw [Addr.add_lit, Nat.zero_add] at h2
            exact h2
          have HO6 := hide hown6
          have HG6 := hide hgrow6
          have HT6 := hide hat6
          clear hown6 hgrow6 hat6 hlt6 m0 m1 hi0 hz0 hz1 hz2 i0
          go_wp2_with fail
          refine (rclone_any HA6.out (by omega)).mono ?_
          rintro e w7 ⟨b2', v2', rfl, hR, hb7⟩
          have HB7 := hide hR
          have HL7 := hide hb7
          have HR7 := hide (own_same HR6.out (hb7.block _ (HR6.out.lt ga rfl).2))
          clear hR hb7 m6
          obtain ⟨i0, hi0, hz0, hz1, hz2⟩ := info_parts Try.infoR
          go_upto_region 14 with (at_builtin; refine wpList_append_lies _ rfl _ _ 31 rfl w.heap.size 27 i0 (.pointer none) 1 8 Try.underlying31 hi0 hz0 hz1 hz2 rfl (by decide) (.slice (some ⟨ga, 0, none⟩) n ca) n (ptrs2 S) rfl (HR7.out.alloc _) ⟨w7.heap.size, 0, none⟩ 1 1 [.pointer (some ⟨b2', 0, none⟩)] rfl rfl (World.news_of_block (cs := #[.pointer (some ⟨b2', 0, none⟩)]) (heap_alloc_new w7 _)) (by simp [Value.oneCell']) (by decide) (by unfold maxLen; omega) (by omega) (by rw [World.size_alloc]; have := HL6.out.size; have := HL7.out.size; omega) (w7.heap.size + 1) (World.size_alloc _ _) ?_; intro g7 c7 w8 hown7 hgrow7 hat7 hlt7)
          have HMF := hide (HM.out.more HL.out.size HL2.out HB2.out HO6.out HG6.out HT6.out HL7.out HB7.out hown7 hgrow7 hat7)
          have HLF := hide ((below_of' HL6.out HL7.out |>.alloc (below_of' HL6.out HL7.out).size (.cells #[.pointer (some ⟨b2', 0, none⟩)] 27)).grown hgrow7 (by rw [World.size_alloc]; exact Nat.le_succ_of_le (below_of' HL6.out HL7.out).size) (fun j hj => by simp only [Value.ownBlock] at hj; injection hj with hj; rw [← hj]; exact (HR7.out.lt ga rfl).1))
          have hSn : (S ++ [(⟨b', v', b2', v2', x.l, x.s⟩ : St)])[n]? = some ⟨b', v', b2', v2', x.l, x.s⟩ := by rw [List.getElem?_append_right (by rw [HM.out.len]; exact Nat.le_refl _), HM.out.len, Nat.sub_self]; rfl
          obtain ⟨m8, _⟩ := HMF.out.cells hSn
          have HBF := hide (HBd.out.app (y := ⟨b', v', b2', v2', x.l, x.s⟩) bd1 bd2 bd3)
          clear hown7 hgrow7 hat7 hlt7 hSn hi0 hz0 hz1 hz2 i0
          go_wp2_with fail
          go_roundg (gk - 1)
          case measure => have := HK.out; omega
          case rel => exact ⟨i + 1, g6, c6, g7, c7, n + 1, _, (by show gk - 1 + (i + 1) = len; have := HK.out; omega), rfl, rfl, by go_num, by omega, by omega, by omega, HMF, HBF, HLF⟩
        · have hk6 : (q.k == 6) = false := by simpa using hk6
          go_wp2_with fail
          go_region_held3 (fun w' => w'.cell? ⟨gl, k, none⟩ = some (.pointer (some ⟨x.b, 0, none⟩)) ∧ w'.cell? ⟨ga, k, none⟩ = some (.pointer (some ⟨x.b2, 0, none⟩)) ∧ w'.cell? ⟨ab, ao + i * 8, none⟩ = some (.int .i64 q.k) ∧ w'.cell? ⟨ab, ao + i * 8 + 1, none⟩ = some (.int .i64 q.on) ∧ w'.cell? ⟨ab, ao + i * 8 + 2, none⟩ = some (.int .i64 q.p) ∧ w'.cell? ⟨ab, ao + i * 8 + 3, none⟩ = some (.int .i64 q.fn) ∧ w'.cell? ⟨ab, ao + i * 8 + 4, none⟩ = some (.int .i64 q.fl) ∧ w'.cell? ⟨ab, ao + i * 8 + 5, none⟩ = some (.int .i64 q.tn) ∧ w'.cell? ⟨ab, ao + i * 8 + 6, none⟩ = some (.int .i64 q.tl) ∧ w'.cell? ⟨ab, ao + i * 8 + 7, none⟩ = some (.string q.data)) (go_keep) (first
            | (go_at_call 11; refine (does_any (HM.out.drew.each x hxm.out) bd2 (by omega) (by omega) q).mono ?_; rintro e w2 ⟨rfl, v', v2', l', s', hT, hM, hd1, hd2, hd3⟩; have HM2 := hide (HM.out.drew.step HX.out (y := ⟨x.b, v', x.b2, v2', l', s'⟩) hT rfl rfl hM); have HB2 := hide (HBd.out.set (k := k) (y := ⟨x.b, v', x.b2, v2', l', s'⟩) (by show l'.length ≤ _; omega) (by show 0 ≤ s'; omega) (by show s' ≤ _; omega)); have HL2 : Hid (Below w.heap.size w w2) := HL.out.drew.trans (hM.below HL.out.size (fun j hj => ((HM.out.each x hxm.out).lt j hj).1)); obtain ⟨p0, p1⟩ := HM2.out.cells (k := k) (x := ⟨x.b, v', x.b2, v2', l', s'⟩) (by rw [List.getElem?_set_self (by rw [HM.out.len]; exact hk)]); have r0 := (HL2.out.cell (p := ⟨ab, ao + i * 8, none⟩) hab).trans ((HL.out.cell (p := ⟨ab, ao + i * 8, none⟩) hab).symm.trans q0); have r1 := (HL2.out.cell (p := ⟨ab, ao + i * 8 + 1, none⟩) hab).trans ((HL.out.cell (p := ⟨ab, ao + i * 8 + 1, none⟩) hab).symm.trans q1); have r2 := (HL2.out.cell (p := ⟨ab, ao + i * 8 + 2, none⟩) hab).trans ((HL.out.cell (p := ⟨ab, ao + i * 8 + 2, none⟩) hab).symm.trans q2); have r3 := (HL2.out.cell (p := ⟨ab, ao + i * 8 + 3, none⟩) hab).trans ((HL.out.cell (p := ⟨ab, ao + i * 8 + 3, none⟩) hab).symm.trans q3); have r4 := (HL2.out.cell (p := ⟨ab, ao + i * 8 + 4, none⟩) hab).trans ((HL.out.cell (p := ⟨ab, ao + i * 8 + 4, none⟩) hab).symm.trans q4); have r5 := (HL2.out.cell (p := ⟨ab, ao + i * 8 + 5, none⟩) hab).trans ((HL.out.cell (p := ⟨ab, ao + i * 8 + 5, none⟩) hab).symm.trans q5); have r6 := (HL2.out.cell (p := ⟨ab, ao + i * 8 + 6, none⟩) hab).trans ((HL.out.cell (p := ⟨ab, ao + i * 8 + 6, none⟩) hab).symm.trans q6); have r7 := (HL2.out.cell (p := ⟨ab, ao + i * 8 + 7, none⟩) hab).trans ((HL.out.cell (p := ⟨ab, ao + i * 8 + 7, none⟩) hab).symm.trans q7); clear hT hM))
          go_wp2_with fail
          go_roundg (gk - 1)
          case measure => have := HK.out; omega
          case rel => exact ⟨i + 1, gl, cl, ga, ca, n, _, (by show gk - 1 + (i + 1) = len; have := HK.out; omega), rfl, rfl, by go_num, by omega, by omega, hn1, HM2, HB2, HL2⟩
    · obtain rfl : i = len := by omega
      have b0 : decide ((i : Int) < (i : Int)) = false := by simp
      clear hi
      go_wp2_with fail
      go_loopg [7] n (fun gj u7 wz => ∃ (j : Nat), Hid (gj + j = n) ∧ u7 = .int .i64 (j : Int) ∧ j ≤ n ∧ Hid (MemA w.heap.size wz gl cl ga ca n S) ∧ Hid (Below w.heap.size w wz))
      case atStart => exact ⟨0, (by show n + 0 = n; rfl), rfl, Nat.zero_le _, HM, HL⟩
      case round =>
        obtain ⟨j, HK2, rfl, hjn, HM2, HL2⟩ := hrel
        clear HM HL b0
        by_cases hj : j < n
        · obtain ⟨x, hx⟩ : ∃ x, S[j]? = some x := ⟨_, List.getElem?_eq_getElem (by rw [HM2.out.len]; exact hj)⟩
          have hxm := hide (List.mem_of_getElem? hx)
          obtain ⟨m0, m1⟩ := HM2.out.cells hx
          have HX := hide hx
          clear hx
          have hjI : (j : Int) < (n : Int) := by omega
          obtain ⟨bd1, bd2, bd3⟩ := HBd.out x hxm.out
          go_wp2_with fail
          go_region_held3 (fun w' => w'.cell? ⟨gl, j, none⟩ = some (.pointer (some ⟨x.b, 0, none⟩)) ∧ w'.cell? ⟨ga, j, none⟩ = some (.pointer (some ⟨x.b2, 0, none⟩))) (go_keep) (first
            | (go_at_call 12; refine (same_any (HM2.out.drew.each x hxm.out).n (HM2.out.drew.each x hxm.out).r (by omega)).mono ?_; rintro e w2 ⟨rfl, hb⟩; have HM3 := hide (HM2.out.drew.below hb); have HL3 := hide (below_of' HL2.out.drew hb); obtain ⟨p0, p1⟩ := HM3.out.cells HX.out; clear hb))
          go_wp2_with fail
          go_roundg (gk - 1)
          case measure => have := HK2.out; omega
          case rel => exact ⟨j + 1, (by show gk - 1 + (j + 1) = n; have := HK2.out; omega), by go_num, by omega, HM3, HL3⟩
        · obtain rfl : j = n := by omega
          have b1 : decide ((j : Int) < (j : Int)) = false := by simp
          clear hj
          go_wp2_with fail
          go_ret
          exact ⟨rfl, HL2.out⟩
end Go.Proofs.Ytnbmgddkaclneaa
