import Derived.Test.YtonoogiadgjodaaSeQ
import Derived.Laws.AppendOwnNone
namespace Go.Proofs.Ytonoogiadgjodaa
open Go.RowKit

/-- the rows that are there -/
def live (D : List Dk) : List Dk := D.filter fun d => d.li != 0
theorem live_len (D : List Dk) : (live D).length ≤ D.length := List.length_filter_le _ _
theorem live_take {D : List Dk} {i : Nat} {d : Dk} (h : D[i]? = some d) : live (D.take (i + 1)) = live (D.take i) ++ (if d.li ≠ 0 then [d] else []) := by
  obtain ⟨hi, rfl⟩ := List.getElem?_eq_some_iff.1 h
  unfold live
  rw [List.take_succ_eq_append_getElem hi, List.filter_append]
  congr 1
  by_cases h0 : (D[i]).li = 0
  · rw [if_neg (fun x => x h0)]; simp [h0]
  · rw [if_pos h0]; simp [h0]
theorem live_all (D : List Dk) : live (D.take D.length) = live D := by rw [List.take_length]
theorem own_form {w : World} {B : Nat} {e : TypeId} {size n : Nat} {v : Value} {xs : List Value} (h : w.ownsRow B e size v n xs) : (v = .slice none 0 0 ∧ n = 0) ∨ ∃ g cap, v = .slice (some ⟨g, 0, none⟩) n cap ∧ g < w.heap.size := by
  rcases h.2 with h1 | ⟨g, cap, cur, rfl, hg, hh, _⟩
  · exact .inl h1
  · exact .inr ⟨g, cap, rfl, lt_of_block hh⟩
theorem own_slice {w : World} {B : Nat} {e : TypeId} {size n : Nat} {v : Value} {xs : List Value} (h : w.ownsRow B e size v n xs) : ∃ ad cap, v = .slice ad n cap := by
  rcases own_form h with ⟨h, h2⟩ | ⟨g, cap, h, _⟩
  · exact ⟨none, 0, by rw [h, h2]⟩
  · exact ⟨_, _, h⟩
theorem own_base {w : World} {B base : Nat} {e : TypeId} {size n : Nat} {v : Value} {xs : List Value} (h : w.ownsRow B e size v n xs) (hb : base ≤ B) : w.ownsRow base e size v n xs := by
  refine ⟨h.1, ?_⟩
  rcases h.2 with h1 | ⟨g, cap, cur, rfl, hg, h2⟩
  · exact .inl h1
  · exact .inr ⟨g, cap, cur, rfl, Nat.le_trans hb hg, h2⟩
theorem own_below {w w' : World} {B : Nat} {e : TypeId} {size n : Nat} {v : Value} {xs : List Value} (h : w.ownsRow B e size v n xs) (hb : Below w.heap.size w w') : w'.ownsRow B e size v n xs := own_keep h fun k hk => hb.block k (h.lt k hk).2
/-- five cells in a new block -/
theorem five_new (w : World) (d : Dk) : ∀ j x, (dks [d])[j]? = some x → (w.alloc (.cells #[.int .i64 d.sl, .int .i64 d.li, .int .i64 d.se, .int .i64 d.la, .string d.rp] 96)).cell? ((⟨w.heap.size, 0, none⟩ : Addr).add j) = some x := by
  intro j x hj
  have : dks [d] = [.int .i64 d.sl, .int .i64 d.li, .int .i64 d.se, .int .i64 d.la, .string d.rp] := rfl
  rw [this] at hj
  match j, hj with
  | 0, hj => simp at hj; subst hj; simp [Addr.add]
  | 1, hj => simp at hj; subst hj; simp [Addr.add]
  | 2, hj => simp at hj; subst hj; simp [Addr.add]
  | 3, hj => simp at hj; subst hj; simp [Addr.add]
  | 4, hj => simp at hj; subst hj; simp [Addr.add]
  | j + 5, hj => simp at hj
theorem dks_one (d : Dk) : ∀ u ∈ dks [d], u.oneCell' = true := dks_one_cell [d]
/-- what grows a row that is new here -/
theorem below_grown {B : Nat} {w w1 w2 : World} {v : Value} (h : Below B w w1) (hg : w1.grownBy w2 v.ownBlock) (hB : B ≤ w1.heap.size) (hv : ∀ k, v.ownBlock = some k → B ≤ k) : Below B w w2 := h.grown hg hB hv
section
variable {B : Nat} {w : World} {b g cap : Nat} {D : List Dk}

set_option maxHeartbeats 2000000 in
set_option maxRecDepth 8000 in
theorem trows_any (h : Tm 92 B w b g cap D) : Calls Try.prog 45 #[.pointer (some ⟨b, 0, none⟩)] w fun e w' => ∃ v, e = .returned v ∧ w'.ownsRow w.heap.size 96 5 v (live D).length (dks (live D)) ∧ Below w.heap.size w w' := by
  obtain ⟨i0, hi0, hz0, hz1, hz2⟩ := info_parts Try.infoDk
  have HT := hide h
  have HT0 := hide h
  have c0 := h.c
  have n8 := h.n8
  clear h
  go_enter Try.func45, Try.ntmps45
  go_wp2_with fail
  clear c0
  go_loopw [3, 12] (fun s t wr => ∃ i : Nat, i ≤ D.length ∧ t = .int .i64 (i : Int) ∧ Hid (Tm 92 B wr b g cap D) ∧ Hid (wr.ownsRow w.heap.size 96 5 s (live (D.take i)).length (dks (live (D.take i)))) ∧ Hid (Below w.heap.size w wr)) (fun _ t _ => D.length - (intOf t).toNat)
  case atStart => exact ⟨0, Nat.zero_le _, rfl, HT, hide (World.ownsRow_nil _ _ _ _), hide (Below.refl _ _)⟩
  case round =>
    clear HT
    obtain ⟨i, hi, rfl, HT, HO, HB⟩ := hrel
    obtain ⟨ad3, cap3, rfl⟩ := own_slice HO.out
    by_cases hid : i < D.length
    · have hii : (i : Int) < (D.length : Int) := by omega
      obtain ⟨d, hd⟩ : ∃ d, D[i]? = some d := ⟨_, List.getElem?_eq_getElem hid⟩
      have HLT := hide (live_take hd)
      have hat : atD D (i : Int) = some d := by unfold atD; rw [if_pos (by omega)]; exact hd
      have HL := hide (Nat.le_trans (live_len (D.take i)) (List.length_take_le i D))
      by_cases h0 : d.li = 0
      · have hr := rowR_zero hat h0
        have HR := hide (row_any HT.out (i : Int))
        rw [hr] at HR
        rw [if_neg (fun x => x h0), List.append_nil] at HLT
        unfold Dk.val at HR
        simp only [dk0, e0] at HR
        clear hr hat h0 hd
        go_wp2_with fail
        refine HR.out.mono ?_
        rintro e w1 ⟨rfl, hb⟩
        have HT := hide ((HT.out.below hb).alloc (.cells #[.int .i64 0, .int .i64 0, .int .i64 0, .int .i64 0, .string ⟨#[]⟩] 96))
        have HO := hide ((own_below HO.out hb).alloc (.cells #[.int .i64 0, .int .i64 0, .int .i64 0, .int .i64 0, .string ⟨#[]⟩] 96))
        have HB := hide ((HB.out.trans (hb.mono HB.out.size)).alloc (Nat.le_trans HB.out.size hb.size) (.cells #[.int .i64 0, .int .i64 0, .int .i64 0, .int .i64 0, .string ⟨#[]⟩] 96))
        clear hb HR
        go_wp2_with fail
        go_roundw
        case rel => exact ⟨i + 1, by omega, by go_num, HT, hide (by rw [HLT.out]; exact HO.out), HB⟩
        case measure => simp only [intOf]; omega
      · have hr := rowR_some hat h0
        have HR := hide (row_any HT.out (i : Int))
        rw [hr] at HR
        rw [if_pos h0] at HLT
        unfold Dk.val at HR
        simp only at HR
        clear hr hat h0 hd
        go_wp2_with fail
        refine HR.out.mono ?_
        rintro e w1 ⟨rfl, hb⟩
        have HT := hide ((HT.out.below hb).alloc (.cells #[.int .i64 d.sl, .int .i64 d.li, .int .i64 d.se, .int .i64 d.la, .string d.rp] 96))
        have HO := hide ((own_below HO.out hb).alloc (.cells #[.int .i64 d.sl, .int .i64 d.li, .int .i64 d.se, .int .i64 d.la, .string d.rp] 96))
        have HB := hide ((HB.out.trans (hb.mono HB.out.size)).alloc (Nat.le_trans HB.out.size hb.size) (.cells #[.int .i64 d.sl, .int .i64 d.li, .int .i64 d.se, .int .i64 d.la, .string d.rp] 96))
        clear hb HR
        have hl8 := HL.out
        generalize live (D.take i) = L at *
        have HNEW : Hid (((w1.alloc (.cells #[.int .i64 d.sl, .int .i64 d.li, .int .i64 d.se, .int .i64 d.la, .string d.rp] 96)).alloc (.cells #[.int .i64 d.sl, .int .i64 d.li, .int .i64 d.se, .int .i64 d.la, .string d.rp] 96)).heap[w1.heap.size + 1]? = some (.cells #[.int .i64 d.sl, .int .i64 d.li, .int .i64 d.se, .int .i64 d.la, .string d.rp] 96 (0, 0))) := hide (by rw [← World.size_alloc w1 (.cells #[.int .i64 d.sl, .int .i64 d.li, .int .i64 d.se, .int .i64 d.la, .string d.rp] 96)]; exact heap_alloc_new _ _)
        go_upto_region 8 with (at_builtin; refine wpList_append_own _ rfl _ _ 90 rfl w.heap.size 96 i0 (.agg #[.int .i64 0, .int .i64 0, .int .i64 0, .int .i64 0, .string ByteArray.empty]) 5 48 Try.underlying90 hi0 hz0 hz1 hz2 rfl (by decide) (.slice ad3 L.length cap3) L.length (dks L) rfl (HO.out.alloc _) ⟨w1.heap.size + 1, 0, none⟩ 1 1 (dks [d]) rfl rfl (World.news_of_block (cs := #[.int .i64 d.sl, .int .i64 d.li, .int .i64 d.se, .int .i64 d.la, .string d.rp]) (t := 96) (fr := (0, 0)) HNEW.out) (dks_one d) (by unfold maxLen; omega) (by omega) (by rw [World.size_alloc]; have := HB.out.size; omega) ?_; intro v4 w4 hown hgrow hnil)
        have HB := hide (below_grown (HB.out.alloc HB.out.size (.cells #[.int .i64 d.sl, .int .i64 d.li, .int .i64 d.se, .int .i64 d.la, .string d.rp] 96)) hgrow (by rw [World.size_alloc]; have := HB.out.size; omega) (fun k hk => (HO.out.lt k hk).1))
        have HO : Hid (w4.ownsRow w.heap.size 96 5 v4 (L ++ [d]).length (dks (L ++ [d]))) := hide (by rw [List.length_append, dks_append]; exact hown)
        clear hown hgrow hnil HNEW HT
        obtain ⟨ad5, cap5, rfl⟩ := own_slice HO.out
        go_wp2_with fail
        go_roundw
        case rel => exact ⟨i + 1, by omega, by go_num, hide (HT0.out.below HB.out), hide (by rw [HLT.out]; exact HO.out), HB⟩
        case measure => simp only [intOf]; omega
    · have hii : ¬ (i : Int) < (D.length : Int) := by omega
      have he : i = D.length := by omega
      subst he
      rw [live_all] at HO
      go_wp2_with fail
      go_ret
      exact ⟨_, rfl, HO.out, HB.out⟩

theorem two_own {B : Nat} {w : World} {n : Nat} {v : Value} {xs : List Value} (h : w.ownsRow B 96 5 v n xs) (hn : 0 < n) : ∃ g cap, v = .slice (some ⟨g, 0, none⟩) n cap := by
  rcases own_form h with ⟨_, h0⟩ | ⟨g, cap, h, _⟩
  · omega
  · exact ⟨g, cap, h⟩
set_option maxHeartbeats 1000000 in
set_option maxRecDepth 8000 in
theorem sclone_any (h : w.ownsRow B 96 5 (.slice (some ⟨g, 0, none⟩) D.length cap) D.length (dks D)) (n8 : D.length ≤ 8) :
    Calls Try.prog 40 #[.slice (some ⟨g, 0, none⟩) D.length cap] w fun e w' => ∃ v', e = .returned v' ∧ w'.ownsRow w.heap.size 96 5 v' D.length (dks D) ∧ Below w.heap.size w w' := by
  obtain ⟨i0, hi0, hz0, hz1, hz2⟩ := info_parts Try.infoDk
  have HR := hide h
  have he : ∀ w : World, (binOp .eql 90 (.slice (some ⟨g, 0, none⟩) D.length cap) (.slice none 0 0)).run Try.prog w = .ok (.bool false) w := fun _ => rfl
  clear h
  go_enter Try.func40, Try.ntmps40
  go_wp2_with (at_builtin; refine wpList_append_own _ rfl _ _ 90 rfl w.heap.size 96 i0 (.agg #[.int .i64 0, .int .i64 0, .int .i64 0, .int .i64 0, .string ByteArray.empty]) 5 48 Try.underlying90 hi0 hz0 hz1 hz2 rfl (by decide) (.slice (some ⟨w.heap.size, 0, none⟩) 0 0) 0 [] rfl (World.ownsRow_made w #[] 0 (Nat.le_refl _) (by decide) rfl) ⟨g, 0, none⟩ D.length cap (dks D) rfl (dks_len D) (fun j u hu => Lib.cell?_alloc_some _ (HR.out.cells (g := g) rfl j u hu)) (dks_one_cell D) (by unfold maxLen; omega) (by omega) (by rw [World.size_alloc]; omega) ?_; intro v' w1 hown hgrow hnil)
  go_ret
  rw [Nat.zero_add, List.nil_append] at hown
  exact ⟨_, rfl, hown, ((Below.refl _ w).alloc (Nat.le_refl _) _).grown hgrow (by rw [World.size_alloc]; omega) (fun k hk => by simp only [Value.ownBlock] at hk; injection hk with hk; omega)⟩
set_option maxHeartbeats 1000000 in
theorem tclone_any (h : Tm 92 B w b g cap D) (n1 : 0 < D.length) : Calls Try.prog 16 #[.pointer (some ⟨b, 0, none⟩)] w fun e w' => ∃ b' g' cap', e = .returned (.pointer (some ⟨b', 0, none⟩)) ∧ Tm 92 w.heap.size w' b' g' cap' D ∧ Below w.heap.size w w' := by
  have HS := hide (sclone_any h.row h.n8)
  have n8 := h.n8
  have c0 := h.c
  clear h
  go_enter Try.func16, Try.ntmps16
  go_wp2_with fail
  refine HS.out.mono ?_
  rintro e w1 ⟨v1, rfl, ho, hb⟩
  obtain ⟨g1, cap1, rfl⟩ := two_own ho n1
  have HO := hide ho
  have HB := hide hb
  clear ho hb HS c0
  go_wp2_with fail
  go_ret
  exact ⟨w1.heap.size, g1, cap1, rfl, ⟨heap_alloc_new w1 _, HO.out.alloc _, HB.out.size, n8⟩, HB.out.alloc HB.out.size _⟩

end
end Go.Proofs.Ytonoogiadgjodaa
