import Derived.Test.YteckkaapibbpcaaChI
namespace Go.Proofs.Yteckkaapibbpcaa
open Go.RowKit

theorem Rb.on {w w1 : World} {x b : Nat} {s : Sn} {T : List ByteArray} {ad : Option Addr} {cap X o : Nat} (h : Rb w x s T ad cap X o) (ho : On b w w1) (h1 : x ≠ b) (h2 : 0 < cap → X ≠ b) : Rb w1 x s T ad cap X o :=
  ⟨(ho.block x h.lt h1).trans h.cb, h.rs.keep fun h0 => ho.block X (h.rs.lt h0) (h2 h0), h.hi⟩
theorem Sb.on {w w1 : World} {x b : Nat} {s : Sn} {ad : Option Addr} {cap X o : Nat} (h : Sb w b s ad cap X o) (ho : On x w w1) (h1 : b ≠ x) (h2 : 0 < cap → X ≠ x) : Sb w1 b s ad cap X o :=
  ⟨(ho.block b h.lt h1).trans h.cb, h.rs.keep fun h0 => ho.block X (h.rs.lt h0) (h2 h0)⟩
theorem One.Xxb {B : Nat} {w : World} {p : Pr} (h : One B w p) (h0 : 0 < p.capx) : p.Xx ≠ p.b := by
  obtain ⟨cur, hc, _⟩ := h.rb.rs.blk h0
  exact blk_ne hc h.sb.cb (by decide)
/-- items written over -/
theorem own_spoil {w : World} {base g n c k : Nat} {xs : List Value} (h : w.ownsRow base 46 2 (.slice (some ⟨g, 0, none⟩) n c) n xs) (hk : k < n) (u v : Value) :
    (∃ a b, w.cell? ⟨g, k * 2, none⟩ = some a ∧ w.cell? ⟨g, k * 2 + 1, none⟩ = some b ∧ w.frozen? ⟨g, k * 2, none⟩ = false ∧ w.frozen? ⟨g, k * 2 + 1, none⟩ = false) ∧ ∃ ys, ((w.setCell ⟨g, k * 2, none⟩ u).setCell ⟨g, k * 2 + 1, none⟩ v).ownsRow base 46 2 (.slice (some ⟨g, 0, none⟩) n c) n ys := by
  rcases h.2 with ⟨h1, _⟩ | ⟨g2, c2, cur, h1, hb, hg, hn, hc, hs, ht⟩
  · cases h1
  · injection h1 with h1 _ h3
    injection h1 with h1
    injection h1 with h1
    subst h1; subst h3
    have i1 : k * 2 < cur.size := by omega
    have i2 : k * 2 + 1 < cur.size := by omega
    refine ⟨⟨cur[k * 2], cur[k * 2 + 1], ?_, ?_, ?_, ?_⟩, ?_⟩
    · rw [cell_of_row w g (k * 2) cur _ _ hg]; simp [i1]
    · rw [cell_of_row w g (k * 2 + 1) cur _ _ hg]; simp [i2]
    · simp [World.frozen?, hg]
    · simp [World.frozen?, hg]
    · have e1 := heap_set_self w g (k * 2) u _ _ _ hg
      have e2 := heap_set_self _ g (k * 2 + 1) v _ _ _ e1
      refine ⟨_, ?_, .inr ⟨g, c, _, rfl, hb, e2, hn, hc, ?_, rfl⟩⟩
      · rw [List.length_take, Array.length_toList]
        simp only [Array.size_setIfInBounds]
        have : n * 2 ≤ c * 2 := by omega
        omega
      · simp only [Array.size_setIfInBounds]
        exact hs
set_option maxHeartbeats 8000000 in
set_option maxRecDepth 8000 in
theorem ldue_any {B : Nat} {w : World} {p : Pr} (h : One B w p) :
    Calls Try.prog 12 #[.pointer (some ⟨p.b, 0, none⟩), .pointer (some ⟨p.x, 0, none⟩)] w (TP B p w) := by
  have HH := hide h
  clear h
  go_enter Try.func12, Try.ntmps12
  go_wp2_with fail
  refine (due_any HH.out.ok HH.out.sb).mono ?_
  rintro e w1 ⟨v, rfl, hown, hs1, ho1⟩
  have hr1 := HH.out.rb.on ho1 (Ne.symm HH.out.bx) HH.out.Xxb
  have HR1 := hide hr1
  have HS1 := hide hs1
  have HO1 := hide ho1
  have HI := hide hown
  clear hr1 hs1 ho1 hown
  go_wp2_with fail
  refine (rdue_any HH.out.ok HR1.out).mono ?_
  rintro e w2 ⟨u, rfl, hown2, hr2, ho2⟩
  have hZ1 : w.heap.size ≤ w1.heap.size := HO1.out.size
  have hxl := HH.out.rb.lt
  have HI2 := hide (own_keep (w' := w2) HI.out fun k hk => ho2.block k (HI.out.lt k hk).2 (by have := (HI.out.lt k hk).1; omega))
  have HN2 := hide hown2
  have HP2 : Hid (One B w2 { p with s := p.s.due }) := hide ⟨Sn.due_ok HH.out.ok, HS1.out.on ho2 HH.out.bx (fun h0 => HH.out.Xx_ h0), hr2, HH.out.lb, HH.out.lx, HH.out.lX, HH.out.sep⟩
  have hXlt : p.sp → p.X < w.heap.size := fun hs => HH.out.sb.rs.lt hs.pos
  have HF2 : Hid (Fr p w w2) := hide (((Fr.refl HH.out).onb HO1.out (fun hs => ⟨hXlt hs, HH.out.Xb hs.pos⟩)).onx ho2 (fun hs => ⟨hXlt hs, HH.out.Xx_ hs.pos⟩))
  have HNx : Hid (Nx w p { p with s := p.s.due }) := hide (Nx.same rfl rfl rfl rfl rfl (by show p.s.due.R.length = _; rw [Sn.due_R]) rfl rfl)
  have HLo : Hid (Lo w.heap.size { p with s := p.s.due }) := hide ⟨HH.out.sb.lt, HH.out.rb.lt, HH.out.sb.rs.lt, HH.out.rb.rs.lt⟩
  have HXl := hide hXlt
  have HD := hide (Sn.its_facts HH.out.rb.hi HH.out.ok)
  have hd32 := HD.out.1
  have hz2 : w1.heap.size ≤ w2.heap.size := ho2.size
  have HC2 := hide HP2.out.rb.c2
  have HTc : Hid (∀ k t, p.T[k]? = some t → w2.cell? ⟨p.Xx, p.ox + k, none⟩ = some (.string t) ∧ p.adx = some ⟨p.Xx, p.ox, none⟩) := hide fun k t hk => by
    obtain ⟨hlt, ht⟩ := List.getElem?_eq_some_iff.mp hk
    have h1 := HP2.out.rb.rs.c k hlt
    have h2 := HP2.out.rb.rs.le
    have h3 := HP2.out.rb.rs.at_ (by show 0 < p.capx; have h4 : p.T.length ≤ p.capx := h2; omega)
    exact ⟨by rw [← ht]; exact h1, h3⟩
  obtain ⟨adv, capv, rfl⟩ := own_slice HI2.out
  obtain ⟨adu, capu, rfl⟩ := own_slice HN2.out
  have hT32 : p.T.length ≤ 32 := by rw [← HH.out.rb.hi.len]; exact HH.out.ok.l
  obtain ⟨Z, hZ⟩ : ∃ Z, w.heap.size = Z := ⟨_, rfl⟩
  obtain ⟨Z1, hZ1e⟩ : ∃ Z1, w1.heap.size = Z1 := ⟨_, rfl⟩
  rw [hZ] at HI2 HLo hZ1
  rw [hZ1e] at HN2 hZ1 hz2
  have HZ := hide hZ
  clear hown2 hr2 ho2 HI HO1 HS1 HR1 hXlt hxl hZ hZ1e
  generalize p.s.its = Ds at *
  generalize p.s.from_ = fr at *
  have tn : ((Ds.length : Int) != (Ds.length : Int)) = false := by simp
  go_wp2_with fail
  go_loopw [7] (fun t wr => ∃ i m : Nat, t = .int .i64 (i : Int) ∧ i ≤ Ds.length ∧ Hid (wr = w2.drewN m)) (fun t _ => Ds.length - (intOf t).toNat)
  case atStart => exact ⟨0, 0, rfl, Nat.zero_le _, rfl⟩
  case round =>
    obtain ⟨i, m, rfl, hi, HX⟩ := hrel
    by_cases hil : i < Ds.length
    · have hiI : (i : Int) < (Ds.length : Int) := by omega
      obtain ⟨g, cg, cur, hv, _, _, _, _, _⟩ := own_form HI2.out (by omega)
      injection hv with hv1 hv2 hv3
      subst hv1; subst hv3
      clear hv2
      obtain ⟨gk, ck, cur2, hv, _, _, _, _, _⟩ := own_form HN2.out (by omega)
      injection hv with hv1 hv2 hv3
      subst hv1; subst hv3
      clear hv2
      obtain ⟨p1, _, _, p4, _⟩ := HD.out.2 i hil
      obtain ⟨x0, x1⟩ := it_cell HI2.out hil
      have k0 := int_cell HN2.out hil
      obtain ⟨t0, hadx⟩ := HTc.out _ _ p4
      have c2 := HC2.out
      have hTn : fr + i < p.T.length := (List.getElem?_eq_some_iff.mp p4).1
      rw [p1] at x0
      obtain ⟨nn, hnn⟩ : ∃ nn, fr + i = nn := ⟨_, rfl⟩
      rw [hnn] at x0 k0 t0 hTn
      generalize (Ds[i]).2 = tx at *
      have e1 : ((nn : Int) != (nn : Int)) = false := by simp
      have c2 : w2.cell? ⟨p.x, 2, none⟩ = some (.slice (some ⟨p.Xx, p.ox, none⟩) p.T.length p.capx) := by rw [← hadx]; exact c2
      clear p1 p4 hnn hadx
      have x0 : wr.cell? ⟨g, i * 2, none⟩ = some (.int .i64 (nn : Int)) := by rw [HX.out]; exact x0
      have x1 : wr.cell? ⟨g, i * 2 + 1, none⟩ = some (.string tx) := by rw [HX.out]; exact x1
      have k0 : wr.cell? ⟨gk, i, none⟩ = some (.int .i64 (nn : Int)) := by rw [HX.out]; exact k0
      have t0 : wr.cell? ⟨p.Xx, p.ox + nn, none⟩ = some (.string tx) := by rw [HX.out]; exact t0
      have c2 : wr.cell? ⟨p.x, 2, none⟩ = some (.slice (some ⟨p.Xx, p.ox, none⟩) p.T.length p.capx) := by rw [HX.out]; exact c2
      go_wp2_with fail
      go_quiet (fail)
      go_wp2_with fail
      go_roundw
      case rel => exact ⟨i + 1, _, by go_num, by omega, hide (by rw [HX.out, World.drewN_drewN])⟩
      case measure => simp only [intOf]; omega
    · have hiI : ¬ (i : Int) < (Ds.length : Int) := by omega
      have HI3 : Hid (∃ xs, wr.ownsRow Z 46 2 (.slice adv Ds.length capv) Ds.length xs) := hide ⟨_, by rw [HX.out]; exact own_keep HI2.out fun _ _ => rfl⟩
      have HB3 : Hid (Below Z w2 wr) := hide (by rw [HX.out]; exact below_drewN (Below.refl _ w2) _)
      clear HX HI2 HD HTc
      go_wp2_with fail
      go_loopw [8] (fun t wx => ∃ i : Nat, t = .int .i64 (i : Int) ∧ i ≤ Ds.length ∧ Hid (∃ xs, wx.ownsRow Z 46 2 (.slice adv Ds.length capv) Ds.length xs) ∧ Hid (Below Z w2 wx)) (fun t _ => Ds.length - (intOf t).toNat)
      case atStart => exact ⟨0, rfl, Nat.zero_le _, HI3, HB3⟩
      case round =>
        clear HI3 HB3
        obtain ⟨j, rfl, hj, HI3, HB3⟩ := hrel
        obtain ⟨xs, hxs⟩ := HI3.out
        by_cases hjl : j < Ds.length
        · have hjI : (j : Int) < (Ds.length : Int) := by omega
          obtain ⟨g, cg, cur, hv, hgb, hgh, _, _, _⟩ := own_form hxs (by omega)
          injection hv with hv1 hv2 hv3
          subst hv1; subst hv3
          clear hv2
          obtain ⟨⟨a0, b0, y0, y1, z0, z1⟩, ys, hys⟩ := own_spoil hxs hjl (.int .i64 (-(j : Int))) (.string ⟨#[115, 112, 111, 105, 108, 116]⟩)
          have HY : Hid (∃ xs, ((wr.setCell ⟨g, j * 2, none⟩ (.int .i64 (-(j : Int)))).setCell ⟨g, j * 2 + 1, none⟩ (.string ⟨#[115, 112, 111, 105, 108, 116]⟩)).ownsRow Z 46 2 (.slice (some ⟨g, 0, none⟩) Ds.length capv) Ds.length xs) := hide ⟨ys, hys⟩
          have HB4 := hide (below_set2 HB3.out hgb (j * 2) (j * 2 + 1) (.int .i64 (-(j : Int))) (.string ⟨#[115, 112, 111, 105, 108, 116]⟩))
          have hgl := lt_of_block hgh
          clear hys hxs HI3 HB3 hgh
          go_wp2_with fail
          go_roundw
          case rel => exact ⟨j + 1, by go_num, by omega, HY, HB4⟩
          case measure => simp only [intOf]; omega
        · have hjI : ¬ (j : Int) < (Ds.length : Int) := by omega
          obtain ⟨iI, hiI2, zI0, zI1, zI2⟩ := info_parts Try.infoI
          have HOA : Hid ((wr.alloc (.cells #[.int .i64 0, .string ⟨#[98, 101, 104, 105, 110, 100]⟩] 46)).ownsRow Z 46 2 (.slice adv Ds.length capv) Ds.length xs) := hide (own_below hxs (below_alloc wr _))
          have hap : Hid (∀ k, (Value.slice adv Ds.length capv).ownBlock = some k → Z ≤ k) := hide fun k e => (hxs.lt k e).1
          have hszr := HB3.out.size
          have hZr : Z ≤ wr.heap.size := by omega
          clear hxs HI3
          go_wp2_with (at_builtin; refine wpList_append_lies _ rfl (.tmp 64) (.tmp 66) 43 rfl Z 46 iI (.agg #[.int .i64 0, .string ByteArray.empty]) 2 24 Try.underlying43 hiI2 zI0 zI1 zI2 rfl (by decide) (.slice adv Ds.length capv) Ds.length xs rfl HOA.out ⟨wr.heap.size, 0, none⟩ 1 1 [.int .i64 0, .string ⟨#[98, 101, 104, 105, 110, 100]⟩] rfl rfl (two_new _ _ _ _) (by simp [Value.oneCell']) (by decide) (by unfold maxLen; omega) (by omega) (by rw [World.size_alloc]; omega) _ rfl ?_; intro g7 cap7 w7 hown7 hgr7 hat7 hlt7; have HB7 := hide ((HB3.out.alloc hZr _).grown hgr7 (by rw [World.size_alloc]; omega) hap.out); clear hown7 hgr7 hat7 hlt7)
          go_ret
          refine ⟨by simp, { p with s := p.s.due }, HP2.out.keepN HLo.out HB7.out, HF2.out.low HB7.out (by rw [HZ.out]; exact Nat.le_refl _) HXl.out, HNx.out⟩
end Go.Proofs.Yteckkaapibbpcaa
