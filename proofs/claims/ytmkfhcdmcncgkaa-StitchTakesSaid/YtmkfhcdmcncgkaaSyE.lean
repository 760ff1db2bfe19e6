import Derived.Test.YtmkfhcdmcncgkaaSyD
namespace Go.Proofs.Ytmkfhcdmcncgkaa
open Go.RowKit Go.Shelf

def bSp : ByteArray := ⟨#[115, 112, 111, 105, 108, 116]⟩
def bBe : ByteArray := ⟨#[98, 101, 104, 105, 110, 100]⟩
/-- an operation's value -/
abbrev Oc.val (q : Oc) : Value := .agg #[.int .i64 q.k, .int .i64 q.on, .int .i64 q.n, .string q.tx]
abbrev Oc.obj (q : Oc) : Obj := .cells #[.int .i64 q.k, .int .i64 q.on, .int .i64 q.n, .string q.tx] 34 (0, 0)
theorem out_len {s : Sw} (h : s.ok) (i : Int) (t : ByteArray) : (s.out i t).length ≤ 32 := by
  unfold Sw.out
  split
  · rename_i hz
    split
    · simp
    · have h1 := (h.put hz).1
      have h2 := h1.len
      have h3 := h.n0
      have h4 := h.n32
      rcases h1.top with h5 | h5 <;> omega
  · simp

set_option maxRecDepth 8000 in
set_option maxHeartbeats 8000000 in
theorem takes_any {w : World} {p : Pp} (h : Pr w p) (q : Oc) : Calls Try.prog 9 #[.pointer (some ⟨p.b, 0, none⟩), .pointer (some ⟨p.x, 0, none⟩), q.val] w fun e w' => e = .returned (.bool true) ∧ Pr w' { p with s := p.s.tk q.n q.tx } ∧ M3 p.b p.m p.x w w' := by
  have HP := hide h
  obtain ⟨iS, hiS, zS0, zS1, zS2⟩ := info_parts Try.infoS
  obtain ⟨U, hU⟩ : ∃ U, p.s.out q.n q.tx = U := ⟨_, rfl⟩
  obtain ⟨E, hE⟩ : ∃ E, p.s.bad q.n q.tx = E := ⟨_, rfl⟩
  have hK32 : U.length ≤ 32 := by rw [← hU]; exact out_len h.ok _ _
  have hlt := h.lt
  clear h
  go_enter Try.func9, Try.ntmps9
  have HP0 := hide (HP.out.below (below_alloc w q.obj))
  have HOb : Hid ((w.alloc q.obj).heap[w.heap.size]? = some q.obj) := heap_alloc_new w q.obj
  have HB0 := hide (below_alloc w q.obj)
  have HS0 : Hid (w.heap.size + 1 = (w.alloc q.obj).heap.size) := hide (by simp)
  clear HP
  go_wp2_with fail
  generalize w.alloc q.obj = w0 at HP0 HOb HB0 HS0 ⊢
  refine (take_any HP0.out.sb HP0.out.ok q.n q.tx).mono ?_
  rintro e w1 ⟨v1, rfl, hr1, hw1, hm1⟩
  rw [hU] at hr1
  rw [hE]
  have HX1 : Hid (Xs w1 p.x p.s) := hide (HP0.out.xs.keep (hm1.block _ HP0.out.lt.2.2 (Ne.symm HP0.out.bx) (Ne.symm HP0.out.mx)))
  have HO1 : Hid (w1.heap[w.heap.size]? = some q.obj) := hide ((hm1.block _ (lt_of_block HOb.out) (by omega) (by omega)).trans HOb.out)
  have HR1 := hide hr1
  have HW1 := hide hw1
  have HM1 : Hid (M3 p.b p.m p.x w w1) := hide ((M3.of_below HB0.out).trans (M3.of_mv hm1))
  have HSz1 : Hid (w.heap.size + 1 ≤ w1.heap.size) := hide (by rw [HS0.out]; exact hm1.size)
  obtain ⟨ad1, cap1, hv1⟩ := own_slice hr1
  subst hv1
  have o2 : w1.cell? ⟨w.heap.size, 2, none⟩ = some (.int .i64 q.n) := by simp [World.cell?, HO1.out]
  have o3 : w1.cell? ⟨w.heap.size, 3, none⟩ = some (.string q.tx) := by simp [World.cell?, HO1.out]
  clear hr1 hw1 hm1 HOb HB0
  go_wp2_with fail
  refine (xtake_any HX1.out HP0.out.ok q.n q.tx).mono ?_
  rintro e w2 ⟨v2, rfl, hr2, hx2, hg2⟩
  rw [hU] at hr2
  rw [hE]
  have HP2 : Hid (Pr w2 { p with s := p.s.tk q.n q.tx }) := by
    refine hide ⟨HW1.out.keep (hg2.block _ HW1.out.lt (fun e => ?_)) (hg2.block _ HW1.out.map.lt (fun e => ?_)), HP0.out.ok.tk _ _, hx2⟩
    · injection e with e; exact HP0.out.bx e
    · injection e with e; exact HP0.out.mx e
  have HR1b : Hid (w2.ownsRow w0.heap.size 9 1 (.slice ad1 U.length cap1) U.length (tcs U)) := hide (own_keep HR1.out fun k e => hg2.block k (HR1.out.lt k e).2 fun e2 => by
    injection e2 with e2
    have := (HR1.out.lt k e).1
    have h3 := HP0.out.lt.2.2
    rw [e2] at this
    omega)
  have HR2 := hide hr2
  have HM2 : Hid (M3 p.b p.m p.x w w2) := hide (HM1.out.trans (M3.of_grown hg2))
  have HD1 : Hid (∀ g, (Value.slice ad1 U.length cap1).ownBlock = some g → g < w1.heap.size ∧ w.heap.size + 1 ≤ g) := hide fun g e => ⟨(HR1.out.lt g e).2, by have := (HR1.out.lt g e).1; have := HS0.out; omega⟩
  obtain ⟨ad2, cap2, hv2⟩ := own_slice hr2
  subst hv2
  have HLt : Hid (p.b < w.heap.size ∧ p.m < w.heap.size ∧ p.x < w.heap.size) := hide hlt
  have HSz2 : Hid (w.heap.size + 1 ≤ w2.heap.size) := hide (Nat.le_trans HSz1.out hg2.size)
  generalize w1.heap.size = Z2 at HR2 HD1
  generalize w0.heap.size = Z1 at HR1b HS0
  have hZ1 : Z1 = w.heap.size + 1 := HS0.out.symm
  obtain ⟨Kl, hKl⟩ : ∃ Kl, U.length = Kl := ⟨_, rfl⟩
  have HKl := hide hKl
  rw [hKl] at HR1b HR2 HD1 hK32
  simp only [hKl]
  have HZ1 := hide hZ1
  clear hr2 hx2 hg2 HX1 HO1 HR1 HW1 HM1 o2 o3 HP0 hlt HS0 hKl hZ1
  go_wp2_with fail
  go_loopw [11] (fun t wr => ∃ i : Nat, t = .int .i64 (i : Int) ∧ i ≤ Kl ∧ Hid (∃ xs, wr.ownsRow Z1 9 1 (.slice ad1 Kl cap1) Kl xs ∧ ∀ j z, i ≤ j → U[j]? = some z → xs[j]? = some (.string z)) ∧ Hid (wr.ownsRow Z2 9 1 (.slice ad2 Kl cap2) Kl (tcs U)) ∧ Hid (Below w.heap.size w2 wr)) (fun t _ => Kl - (intOf t).toNat)
  case atStart => exact ⟨0, rfl, Nat.zero_le _, hide ⟨_, HR1b.out, fun j z _ h => by simp [tcs, h]⟩, HR2, hide (Below.refl _ _)⟩
  case round =>
    obtain ⟨i, rfl, hi, HX1, HX2, HX3⟩ := hrel
    obtain ⟨xs, hxs, hxg⟩ := HX1.out
    by_cases hil : i < Kl
    · obtain ⟨g1, cc1, hg1, hgb1, hgl1⟩ := own_at hxs (by omega)
      injection hg1 with hg1 _ hg1c
      subst hg1; subst hg1c
      obtain ⟨g2, cc2, hg2, hgb2, hgl2⟩ := own_at HX2.out (by omega)
      injection hg2 with hg2 _ hg2c
      subst hg2; subst hg2c
      obtain ⟨z, hz⟩ : ∃ z, U[i]? = some z := ⟨_, List.getElem?_eq_getElem (by rw [HKl.out]; exact hil)⟩
      have k1 : wr.cell? ⟨g1, i, none⟩ = some (.string z) := own_cell hxs (hxg i z (Nat.le_refl _) hz)
      have k2 : wr.cell? ⟨g2, i, none⟩ = some (.string z) := own_cell HX2.out (by simp [tcs, hz])
      have f1 := own_z hxs i
      have hne : g1 ≠ g2 := fun e => by have h1 := (HD1.out g1 rfl).1; omega
      have HY1 : Hid (∀ n, ∃ ys, ((wr.drewN n).setCell ⟨g1, i, none⟩ (.string bSp)).ownsRow Z1 9 1 (.slice (some ⟨g1, 0, none⟩) Kl cap1) Kl ys ∧ ∀ j z, i + 1 ≤ j → U[j]? = some z → ys[j]? = some (.string z)) := hide fun n => ⟨_, own_put1 (own_below hxs (below_drewN wr n)) i _, fun j z hj h => by rw [set_get (by omega)]; exact hxg j z (by omega) h⟩
      have HY2 : Hid (∀ n, ((wr.drewN n).setCell ⟨g1, i, none⟩ (.string bSp)).ownsRow Z2 9 1 (.slice (some ⟨g2, 0, none⟩) Kl cap2) Kl (tcs U)) := hide fun n => own_keep (own_below HX2.out (below_drewN wr n)) fun k e => (grown_set (wr.drewN n) g1 i _).block k (by cases e; exact hgl2) (fun e2 => by cases e; cases e2; exact hne rfl)
      have HY3 : Hid (∀ n, Below w.heap.size w2 ((wr.drewN n).setCell ⟨g1, i, none⟩ (.string bSp))) := hide fun n => (HX3.out.trans ((below_drewN wr n).mono (by have := HSz2.out; have := HX3.out.size; omega))).setCell (p := ⟨g1, i, none⟩) (by have := (HD1.out g1 rfl).2; show w.heap.size ≤ g1; omega) _
      clear hxs hxg HX1 HX2 HX3 hz hne
      go_wp2_with fail
      go_quiet (fail)
      go_wp2_with fail
      go_roundw
      case rel => exact ⟨i + 1, by go_num, by omega, hide (HY1.out nq), hide (HY2.out nq), hide (HY3.out nq)⟩
      case measure => simp only [intOf]; omega
    · have HOA : Hid ((wr.alloc (.cells #[.string bBe] 9)).ownsRow Z1 9 1 (.slice ad1 Kl cap1) Kl xs) := own_alloc hxs _
      have hap : Hid (∀ g, (Value.slice ad1 Kl cap1).ownBlock = some g → w.heap.size ≤ g) := hide fun g e => by have := (HD1.out g e).2; omega
      have hsz : w.heap.size ≤ wr.heap.size := by have := HSz2.out; have := HX3.out.size; omega
      have hsz1 : Z1 ≤ wr.heap.size := by have := HSz2.out; have := HX3.out.size; have := HZ1.out; omega
      clear hxs hxg
      go_wp2_with (at_builtin; refine wpList_append_lies _ rfl _ _ 43 rfl Z1 9 iS (.string ByteArray.empty) 1 16 Try.underlying43 hiS zS0 zS1 zS2 rfl (by decide) (.slice ad1 Kl cap1) Kl xs rfl HOA.out ⟨wr.heap.size, 0, none⟩ 1 1 [.string bBe] rfl rfl (one_new _ _ _) (by intro u hu; simp at hu; subst hu; rfl) (by decide) (by unfold maxLen; omega) (by omega) (by rw [World.size_alloc]; omega) _ rfl ?_; intro g7 cap7 w7 hown7 hgrow7 hat7 hlt7; have HB7 := hide ((HX3.out.alloc hsz (.cells #[.string bBe] 9)).grown hgrow7 (by rw [World.size_alloc]; omega) hap.out); clear hown7 hgrow7 hat7 hlt7)
      go_ret
      refine ⟨by simp, ?_, HM2.out.low HB7.out⟩
      exact ⟨HP2.out.sb.keep (HB7.out.block _ HLt.out.1) (HB7.out.block _ HLt.out.2.1), HP2.out.ok, HP2.out.xs.keep (HB7.out.block _ HLt.out.2.2)⟩
end Go.Proofs.Ytmkfhcdmcncgkaa
