import Derived.Test.YtaikogbeaohmhaaSeL
namespace Go.Proofs.Ytaikogbeaohmhaa
open Go.RowKit
section
variable {B : Nat} {w : World} {b g cap : Nat} {D : List Dk}

set_option maxHeartbeats 2000000 in
set_option maxRecDepth 8000 in
theorem rans_Z (h : Tm 94 B w b g cap D) {i : Nat} {d : Dk} (ha : atD D (i : Int) = some d) (rp : ByteArray) (q0 : (d.li == 0) = true) : Calls Try.prog 44 #[.pointer (some ⟨b, 0, none⟩), .int .i64 (i : Int), .string rp] w fun e w' => e = .returned (.int .i64 132) ∧ Tm 94 B w' b g cap D ∧ On g w w' := by
  have HH := hide (there_any h (i : Int))
  have HT := hide h
  have hne := h.ne (by decide)
  rw [ha] at HH
  simp only [Option.isSome] at HH
  obtain ⟨i', hi', hi, hd⟩ := atD_some ha
  obtain rfl : i = i' := by omega
  obtain ⟨f0, f1, f2, f3, f4⟩ := h.f hd
  have z := h.z
  have t2 : (i : Int) < (D.length : Int) := by omega
  have n8 := h.n8
  have c0 := h.c
  clear h ha hd hi'
  go_enter Try.func44, Try.ntmps44
  go_wp2_with fail
  refine HH.out.mono ?_
  rintro e w1 ⟨rfl, rfl⟩
  go_wp2_with fail
  go_ret
  exact ⟨rfl, HT.out, On.refl _ _⟩

set_option maxHeartbeats 2000000 in
set_option maxRecDepth 8000 in
theorem rans_M (h : Tm 94 B w b g cap D) {i : Nat} {d : Dk} (ha : atD D (i : Int) = some d) (rp : ByteArray) (q0 : (d.li == 0) = false) (q1 : decide (1099511627776 ≤ d.la) = true) : Calls Try.prog 44 #[.pointer (some ⟨b, 0, none⟩), .int .i64 (i : Int), .string rp] w fun e w' => e = .returned (.int .i64 132) ∧ Tm 94 B w' b g cap D ∧ On g w w' := by
  have HH := hide (there_any h (i : Int))
  have HT := hide h
  have hne := h.ne (by decide)
  rw [ha] at HH
  simp only [Option.isSome] at HH
  obtain ⟨i', hi', hi, hd⟩ := atD_some ha
  obtain rfl : i = i' := by omega
  obtain ⟨f0, f1, f2, f3, f4⟩ := h.f hd
  have z := h.z
  have t2 : (i : Int) < (D.length : Int) := by omega
  have n8 := h.n8
  have c0 := h.c
  clear h ha hd hi'
  go_enter Try.func44, Try.ntmps44
  go_wp2_with fail
  refine HH.out.mono ?_
  rintro e w1 ⟨rfl, rfl⟩
  go_wp2_with fail
  go_ret
  exact ⟨rfl, HT.out, On.refl _ _⟩

theorem dks_la (l : List Dk) (i : Nat) {d : Dk} (hd : l[i]? = some d) (x : Int) (rp : ByteArray) : ((dks l).set (i * 5 + 3) (.int .i64 x)).set (i * 5 + 4) (.string rp) = dks (l.set i { d with la := x, rp := rp }) := by
  induction l generalizing i with
  | nil => cases hd
  | cons y l ih =>
    cases i with
    | zero => injection hd with hd; subst hd; simp [dks, Dk.cs]
    | succ i =>
      have := ih i hd
      simp only [List.set_cons_succ, dks]
      rw [← this]
      simp only [Dk.cs, show (i + 1) * 5 = i * 5 + 5 by omega, List.cons_append, List.nil_append]
      rw [show i * 5 + 5 + 3 = i * 5 + 3 + 5 by omega, show i * 5 + 5 + 4 = i * 5 + 4 + 5 by omega]
      rfl
theorem Tm.put2 {T : Nat} (h : Tm T B w b g cap D) (hT : 96 ≠ T) {i : Nat} {d : Dk} (hd : D[i]? = some d) (x : Int) (rp : ByteArray) : Tm T B ((w.setCell ⟨g, i * 5 + 3, none⟩ (.int .i64 x)).setCell ⟨g, i * 5 + 4, none⟩ (.string rp)) b g cap (D.set i { d with la := x, rp := rp }) := by
  have hne := h.ne hT
  have ho := ((On.refl g w).set (i * 5 + 3) (.int .i64 x)).set (i * 5 + 4) (.string rp)
  have h1 := (h.row.stored (i * 5 + 3) (.int .i64 x)).1
  have h5 := (h1.stored (i * 5 + 4) (.string rp)).1
  rw [dks_la D i hd] at h5
  exact ⟨by rw [List.length_set]; exact (ho.block b h.lt (Ne.symm hne)).trans h.hb, by rw [List.length_set]; exact h5, h.low, by rw [List.length_set]; exact h.n8⟩

set_option maxHeartbeats 2000000 in
set_option maxRecDepth 8000 in
theorem rans_Y (h : Tm 94 B w b g cap D) {i : Nat} {d : Dk} (ha : atD D (i : Int) = some d) (rp : ByteArray) (q0 : (d.li == 0) = false) (q1 : decide (1099511627776 ≤ d.la) = false) (l0 : 0 ≤ d.la) (l1 : d.la < 1099511627776) : Calls Try.prog 44 #[.pointer (some ⟨b, 0, none⟩), .int .i64 (i : Int), .string rp] w fun e w' => e = .returned (.int .i64 0) ∧ Tm 94 B w' b g cap (D.set i { d with la := d.la + 1, rp := rp }) ∧ On g w w' := by
  have HH := hide (there_any h (i : Int))
  have HT := hide h
  have hne := h.ne (by decide)
  rw [ha] at HH
  simp only [Option.isSome] at HH
  obtain ⟨i', hi', hi, hd⟩ := atD_some ha
  obtain rfl : i = i' := by omega
  obtain ⟨f0, f1, f2, f3, f4⟩ := h.f hd
  have z := h.z
  have t2 : (i : Int) < (D.length : Int) := by omega
  have n8 := h.n8
  have c0 := h.c
  have HP := hide (h.put2 (by decide) hd (d.la + 1) rp)
  have HO := hide (((On.refl g w).set (i * 5 + 3) (.int .i64 (d.la + 1))).set (i * 5 + 4) (.string rp))
  have hbg : g ≠ b := hne
  clear h ha hd hi' HT
  go_enter Try.func44, Try.ntmps44
  go_wp2_with fail
  refine HH.out.mono ?_
  rintro e w1 ⟨rfl, rfl⟩
  go_wp2_with fail
  go_ret
  exact ⟨rfl, HP.out, HO.out⟩

set_option maxHeartbeats 2000000 in
theorem rans_any (h : Tm 94 B w b g cap D) (hk : DOk D) (s : Int) (rp : ByteArray) : Calls Try.prog 44 #[.pointer (some ⟨b, 0, none⟩), .int .i64 s, .string rp] w fun e w' => e = .returned (.int .i64 (tAnswer D s rp).e) ∧ Tm 94 B w' b g cap (tAnswer D s rp).D ∧ On g w w' := by
  unfold tAnswer
  cases ha : atD D s with
  | none =>
    have HH := hide (there_any h s)
    have HT := hide h
    rw [ha] at HH
    simp only [Option.isSome] at HH
    clear h ha
    go_enter Try.func44, Try.ntmps44
    go_wp2_with fail
    refine HH.out.mono ?_
    rintro e w1 ⟨rfl, rfl⟩
    go_wp2_with fail
    go_ret
    exact ⟨rfl, HT.out, On.refl _ _⟩
  | some d =>
    obtain ⟨i, rfl, _, hd⟩ := atD_some ha
    obtain ⟨_, _, _, _, l0, l1⟩ := hk i d hd
    simp only
    by_cases h0 : d.li = 0
    · rw [if_pos h0]; exact rans_Z h ha rp (by simpa using h0)
    rw [if_neg h0]
    by_cases h1 : d.la = 1099511627776
    · rw [if_pos h1]; exact rans_M h ha rp (by simpa using h0) (decide_eq_true (by omega))
    · rw [if_neg h1]; exact rans_Y h ha rp (by simpa using h0) (decide_eq_false (by omega)) l0 (by omega)

theorem live_pos {d : Dk} (h : 0 ≤ d.li) : (d.li ≠ 0) = (0 < d.li) := by simp; omega
set_option maxHeartbeats 2000000 in
set_option maxRecDepth 8000 in
theorem told_any (h : Tm 94 B w b g cap D) (hk : DOk D) : Calls Try.prog 47 #[.pointer (some ⟨b, 0, none⟩)] w fun e w' => ∃ v, e = .returned v ∧ w'.ownsRow w.heap.size 96 5 v (live D).length (dks (live D)) ∧ Below w.heap.size w w' := by
  obtain ⟨i0, hi0, hz0, hz1, hz2⟩ := info_parts Try.infoDk
  have HT := hide h
  have HT0 := hide h
  have HDK := hide hk
  have n8 := h.n8
  clear h hk
  go_enter Try.func47, Try.ntmps47
  go_wp2_with fail
  go_loopw [3, 4] (fun s t wr => ∃ i : Nat, i ≤ D.length ∧ t = .int .i64 (i : Int) ∧ Hid (wr.ownsRow w.heap.size 96 5 s (live (D.take i)).length (dks (live (D.take i)))) ∧ Hid (Below w.heap.size w wr)) (fun _ t _ => D.length - (intOf t).toNat)
  case atStart => exact ⟨0, Nat.zero_le _, rfl, hide (World.ownsRow_made w #[] 0 (Nat.le_refl _) (by decide) rfl), hide (below_alloc _ _)⟩
  case round =>
    clear HT
    obtain ⟨i, hi, rfl, HO, HB⟩ := hrel
    have HT := hide (HT0.out.below HB.out)
    have c0 := HT.out.c
    have hbl := HT.out.lt
    obtain ⟨ad3, cap3, rfl⟩ := own_slice HO.out
    by_cases hid : i < D.length
    · have hii : (i : Int) < (D.length : Int) := by omega
      obtain ⟨d, hd⟩ : ∃ d, D[i]? = some d := ⟨_, List.getElem?_eq_getElem hid⟩
      have HLT := hide (live_take hd)
      obtain ⟨f0, f1, f2, f3, f4⟩ := HT.out.f hd
      have hgl := HT.out.gl
      have HL := hide (Nat.le_trans (live_len (D.take i)) (List.length_take_le i D))
      by_cases h0 : d.li = 0
      · have t0 : decide (0 < d.li) = false := decide_eq_false (by omega)
        rw [if_neg (fun x => x h0), List.append_nil] at HLT
        clear h0 hd
        go_wp2_with fail
        go_roundw
        case rel => exact ⟨i + 1, by omega, by go_num, hide (by rw [HLT.out]; exact HO.out), HB⟩
        case measure => simp only [intOf]; omega
      · have t0 : decide (0 < d.li) = true := decide_eq_true (by have := (HDK.out i d hd).1; omega)
        rw [if_pos h0] at HLT
        clear h0 hd
        have hl8 := HL.out
        generalize live (D.take i) = L at *
        have HNEW : Hid ((wr.alloc (.cells #[.int .i64 d.sl, .int .i64 d.li, .int .i64 d.se, .int .i64 d.la, .string d.rp] 96)).heap[wr.heap.size]? = some (.cells #[.int .i64 d.sl, .int .i64 d.li, .int .i64 d.se, .int .i64 d.la, .string d.rp] 96 (0, 0))) := hide (heap_alloc_new _ _)
        go_upto_region 7 with (at_builtin; refine wpList_append_own _ rfl _ _ 90 rfl w.heap.size 96 i0 (.agg #[.int .i64 0, .int .i64 0, .int .i64 0, .int .i64 0, .string ByteArray.empty]) 5 48 Try.underlying90 hi0 hz0 hz1 hz2 rfl (by decide) (.slice ad3 L.length cap3) L.length (dks L) rfl (HO.out.alloc _) ⟨wr.heap.size, 0, none⟩ 1 1 (dks [d]) rfl rfl (World.news_of_block (cs := #[.int .i64 d.sl, .int .i64 d.li, .int .i64 d.se, .int .i64 d.la, .string d.rp]) (t := 96) (fr := (0, 0)) HNEW.out) (dks_one d) (by unfold maxLen; omega) (by omega) (by rw [World.size_alloc]; have := HB.out.size; omega) ?_; intro v4 w4 hown hgrow hnil)
        have HB := hide (below_grown (HB.out.alloc HB.out.size (.cells #[.int .i64 d.sl, .int .i64 d.li, .int .i64 d.se, .int .i64 d.la, .string d.rp] 96)) hgrow (by rw [World.size_alloc]; have := HB.out.size; omega) (fun k hk => (HO.out.lt k hk).1))
        have HO : Hid (w4.ownsRow w.heap.size 96 5 v4 (L ++ [d]).length (dks (L ++ [d]))) := hide (by rw [List.length_append, dks_append]; exact hown)
        clear hown hgrow hnil HNEW HT
        obtain ⟨ad5, cap5, rfl⟩ := own_slice HO.out
        go_wp2_with fail
        go_roundw
        case rel => exact ⟨i + 1, by omega, by go_num, hide (by rw [HLT.out]; exact HO.out), HB⟩
        case measure => simp only [intOf]; omega
    · have hii : ¬ (i : Int) < (D.length : Int) := by omega
      have he : i = D.length := by omega
      subst he
      rw [live_all] at HO
      go_wp2_with fail
      go_ret
      exact ⟨_, rfl, HO.out, HB.out⟩

set_option maxHeartbeats 1000000 in
set_option maxRecDepth 8000 in
theorem rclone_any (h : Tm 94 B w b g cap D) (n1 : 0 < D.length) : Calls Try.prog 17 #[.pointer (some ⟨b, 0, none⟩)] w fun e w' => ∃ b' g' cap', e = .returned (.pointer (some ⟨b', 0, none⟩)) ∧ Tm 94 w.heap.size w' b' g' cap' D ∧ Below w.heap.size w w' := by
  obtain ⟨i0, hi0, hz0, hz1, hz2⟩ := info_parts Try.infoDk
  have HR := hide h.row
  have n8 := h.n8
  have c0 := h.c
  have hl := h.lt
  clear h
  go_enter Try.func17, Try.ntmps17
  go_wp2_with (at_builtin; refine wpList_append_own _ rfl _ _ 90 rfl w.heap.size 96 i0 (.agg #[.int .i64 0, .int .i64 0, .int .i64 0, .int .i64 0, .string ByteArray.empty]) 5 48 Try.underlying90 hi0 hz0 hz1 hz2 rfl (by decide) (.slice (some ⟨w.heap.size, 0, none⟩) 0 0) 0 [] rfl (World.ownsRow_made w #[] 0 (Nat.le_refl _) (by decide) rfl) ⟨g, 0, none⟩ D.length cap (dks D) rfl (dks_len D) (fun j u hu => Lib.cell?_alloc_some _ (HR.out.cells (g := g) rfl j u hu)) (dks_one_cell D) (by unfold maxLen; omega) (by omega) (by rw [World.size_alloc]; omega) ?_; intro v' w1 hown hgrow hnil; rw [Nat.zero_add, List.nil_append] at hown; obtain ⟨g1, cap1, rfl⟩ := two_own hown n1)
  go_ret
  have hb : Below w.heap.size w w1 := ((Below.refl _ w).alloc (Nat.le_refl _) _).grown hgrow (by rw [World.size_alloc]; omega) (fun k hk => by simp only [Value.ownBlock] at hk; injection hk with hk; omega)
  exact ⟨w1.heap.size, g1, cap1, rfl, ⟨heap_alloc_new w1 _, hown.alloc _, hb.size, n8⟩, hb.alloc hb.size _⟩

/-- rows that are read -/
structure Rd (w : World) (ad : Option Addr) (ab : Nat) (L : List Dk) : Prop where
  at_ : 0 < L.length → ad = some ⟨ab, 0, none⟩
  c : ∀ (i : Nat) (d : Dk), L[i]? = some d → w.cell? ⟨ab, i * 5, none⟩ = some (.int .i64 d.sl) ∧ w.cell? ⟨ab, i * 5 + 1, none⟩ = some (.int .i64 d.li) ∧ w.cell? ⟨ab, i * 5 + 2, none⟩ = some (.int .i64 d.se) ∧ w.cell? ⟨ab, i * 5 + 3, none⟩ = some (.int .i64 d.la) ∧ w.cell? ⟨ab, i * 5 + 4, none⟩ = some (.string d.rp)
theorem Rd.own {w : World} {L : List Dk} {ad : Option Addr} {cap : Nat} (h : w.ownsRow B 96 5 (.slice ad L.length cap) L.length (dks L)) : ∃ ab, Rd w ad ab L := by
  rcases own_form h with ⟨h1, h0⟩ | ⟨g, c, h1, _⟩
  · exact ⟨0, ⟨fun h => by omega, fun i d hd => by rw [List.length_eq_zero_iff.1 h0] at hd; cases hd⟩⟩
  · injection h1 with h1 _ h2
    subst h1
    refine ⟨g, ⟨fun _ => rfl, fun i d hd => ?_⟩⟩
    obtain ⟨hl, rfl⟩ := List.getElem?_eq_some_iff.1 hd
    have hc : ∀ k, k < 5 → w.cell? ⟨g, i * 5 + k, none⟩ = (L[i]).cs[k]? := fun k hk => (h.cellAt _ (by omega)).trans (dks_get L i k hl hk)
    exact ⟨hc 0 (by decide), hc 1 (by decide), hc 2 (by decide), hc 3 (by decide), hc 4 (by decide)⟩
theorem Rd.below {w w' : World} {ad : Option Addr} {ab : Nat} {L : List Dk} (h : Rd w ad ab L) (hb : Below w.heap.size w w') : Rd w' ad ab L := ⟨h.at_, fun i d hd => by
    obtain ⟨h0, h1, h2, h3, h4⟩ := h.c i d hd
    have hk := hb.block ab (World.block_lt_of_cell? _ _ h0)
    exact ⟨(World.cell?_of_block hk).trans h0, (World.cell?_of_block hk).trans h1, (World.cell?_of_block hk).trans h2, (World.cell?_of_block hk).trans h3, (World.cell?_of_block hk).trans h4⟩⟩
set_option maxHeartbeats 2000000 in
set_option maxRecDepth 8000 in
theorem same_any {w : World} {ad ad2 : Option Addr} {ab ab2 cap cap2 : Nat} {L : List Dk} (h : Rd w ad ab L) (h2 : Rd w ad2 ab2 L) (hl : L.length ≤ 8) : Calls Try.prog 46 #[.slice ad L.length cap, .slice ad2 L.length cap2] w fun e w' => e = .returned (.bool true) ∧ Below w.heap.size w w' := by
  have HR := hide h
  have HR2 := hide h2
  have n0 : ((L.length : Int) != (L.length : Int)) = false := by simp
  clear h h2
  go_enter Try.func46, Try.ntmps46
  go_wp2_with fail
  go_loopw [5] (fun t wr => ∃ i : Nat, i ≤ L.length ∧ t = .int .i64 (i : Int) ∧ Hid (Below w.heap.size w wr)) (fun t _ => L.length - (intOf t).toNat)
  case atStart => exact ⟨0, Nat.zero_le _, rfl, hide (Below.refl _ _)⟩
  case round =>
    obtain ⟨i, hi, rfl, HB⟩ := hrel
    by_cases hid : i < L.length
    · have hii : (i : Int) < (L.length : Int) := by omega
      obtain ⟨d, hd⟩ : ∃ d, L[i]? = some d := ⟨_, List.getElem?_eq_getElem hid⟩
      have ha := HR.out.at_ (by omega)
      have ha2 := HR2.out.at_ (by omega)
      subst ha; subst ha2
      obtain ⟨f0, f1, f2, f3, f4⟩ := (HR.out.below HB.out).c i d hd
      obtain ⟨e0, e1, e2, e3, e4⟩ := (HR2.out.below HB.out).c i d hd
      have hq : ∀ w, (binOp .neq 96 (.agg #[.int .i64 d.sl, .int .i64 d.li, .int .i64 d.se, .int .i64 d.la, .string d.rp]) (.agg #[.int .i64 d.sl, .int .i64 d.li, .int .i64 d.se, .int .i64 d.la, .string d.rp])).run Try.prog w = .ok (.bool false) w := fun w => by
        have := neq_dk d d w
        rw [decide_eq_true rfl] at this
        exact this
      clear hd
      go_wp2_with fail
      go_quiet (fail)
      go_wp2_with fail
      go_roundw
      case rel => exact ⟨i + 1, by omega, by go_num, hide (below_drewN HB.out _)⟩
      case measure => simp only [intOf]; omega
    · have hii : ¬ (i : Int) < (L.length : Int) := by omega
      go_wp2_with fail
      go_ret
      exact ⟨rfl, HB.out⟩

end
end Go.Proofs.Ytaikogbeaohmhaa
