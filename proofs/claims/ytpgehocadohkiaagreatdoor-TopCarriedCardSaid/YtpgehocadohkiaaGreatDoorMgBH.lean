import Derived.Test.YtpgehocadohkiaaGreatDoorMgBG

section
namespace Go.Proofs.YtpgehocadohkiaaGreatDoor
open Go.RowKit Go.Shelf

namespace Im
def xsE : List In := [⟨1, 0, 0, 0, 0, 4609434218613702656⟩, ⟨21, 0, 0, 0, 0, 0⟩, ⟨14, 0, 0, 0, 3, 0⟩]
def t31 : ByteArray := ⟨#[51, 112, 45, 49]⟩
end Im
theorem t31_is : (Im.t31.toList == [51, 112, 45, 49]) = true := by kernel_rfl
theorem xsE_check : Pg.checkE 9 Im.xsE = (0, 0) := by decide
theorem xsE_fits : ∀ x ∈ Im.xsE, x.Fits := by
  intro x hx
  simp only [Im.xsE, List.mem_cons, List.not_mem_nil, or_false] at hx
  rcases hx with rfl | rfl | rfl <;> exact ⟨by decide, by decide, by decide, by decide, by decide, by decide⟩
theorem xsE_pok : Pok 9 Im.xsE := by
  obtain ⟨n, hn, hp⟩ := pok_of (fuel := 9) xsE_fits (by rw [xsE_check])
  obtain rfl : n = 9 := by omega
  exact hp
theorem textE : textB 4609434218613702656 = Im.t31 := by
  have h1 : oN 4609434218613702656 = 3 := by decide
  have h2 : pN 4609434218613702656 = -1 := by decide
  have h3 : clsN 4609434218613702656 = 4 := by decide
  unfold textB
  rw [show Gn.canonW 4609434218613702656 = 4609434218613702656 by decide, if_pos (by decide)]
  unfold amtB
  rw [h3, if_neg (by decide), if_neg (by decide), if_neg (by decide), h1, h2]
  rw [Lib.decDigits_one (by decide), show Lib.itoa (-1) = [45, 49] from by unfold Lib.itoa; rw [if_pos (by decide)]; show 45 :: Lib.decDigits 1 = _; rw [Lib.decDigits_one (by decide)]; rfl]
  rfl
theorem i_endE : Im.end_ Im.xsE 9 = (⟨3, [4609434218613702656, 0, 0, 0, 0, 0, 0, 0], [0, 0, 0, 0, 0, 0, 0, 0], 0, [0, 0, 0, 0, 0, 0, 0, 0], 0, 3, 1, 0, true, 0⟩, [(1, textB 4609434218613702656)]) := by kernel_rfl
theorem itrE : Im.itr Im.xsE 9 Im.m0 2 = (⟨2, [4609434218613702656, 0, 0, 0, 0, 0, 0, 0], [0, 0, 0, 0, 0, 0, 0, 0], 0, [0, 0, 0, 0, 0, 0, 0, 0], 0, 2, 1, 0, false, 0⟩, [(1, textB 4609434218613702656)]) := by kernel_rfl
theorem stpE : Im.stp Im.xsE 9 ⟨2, [4609434218613702656, 0, 0, 0, 0, 0, 0, 0], [0, 0, 0, 0, 0, 0, 0, 0], 0, [0, 0, 0, 0, 0, 0, 0, 0], 0, 2, 1, 0, false, 0⟩ = (⟨3, [4609434218613702656, 0, 0, 0, 0, 0, 0, 0], [0, 0, 0, 0, 0, 0, 0, 0], 0, [0, 0, 0, 0, 0, 0, 0, 0], 0, 3, 1, 0, true, 0⟩, 0, ByteArray.empty) := by kernel_rfl
theorem cell_of_block {w : World} {Y T i : Nat} {cs : Array Value} {u : Value} (h : w.heap[Y]? = some (.cells cs T (0, 0))) (hi : cs[i]? = some u) : w.cell? ⟨Y, i, none⟩ = some u := by simp [World.cell?, h, hi]
theorem wholeE (w : World) (v : Value) (h : Cd w v Im.xsE) (hT : Tbs w) : Calls Tryz.prog 4 #[.agg #[.int .i64 9, v]] w fun e w' => ∃ g cap ad cap2, e = .returned (.tuple #[.agg #[.int .i64 0, .int .u64 4609434218613702656, .slice (some ⟨g, 0, none⟩) 1 cap, .slice ad 0 cap2, .int .i64 3], .int .i64 0]) ∧ w'.cell? ⟨g, 0, none⟩ = some (.string Im.t31) ∧ Below w.heap.size w w' := by
  refine (whole_ok xsE_fits h xsE_check xsE_pok hT).mono ?_
  rintro e w' ⟨o, rfl, ⟨cv, pv, rfl, hcv, hpv⟩, hb⟩
  rw [i_endE] at hcv hpv ⊢
  rw [textE] at hcv hpv
  obtain ⟨g, cap, rfl⟩ := own_some (n := 1) hcv (by decide)
  obtain ⟨ad, cap2, rfl⟩ := rown_slice (n := 0) hpv
  exact ⟨g, cap, ad, cap2, rfl, hcv.cells (g := g) rfl 0 (.string Im.t31) rfl, hb⟩
theorem runE {w : World} {B : Nat} {v : Value} (h : Mb w B Im.m0 v 9) (hC : Cdn w v Im.xsE B) (hE : Env w B) : Calls Tryz.prog 14 #[.pointer (some ⟨B, 0, none⟩), .int .i64 2] w fun e w' => ∃ g cap, e = .returned (.slice (some ⟨g, 0, none⟩) 1 cap) ∧ Mb w' B ⟨2, [4609434218613702656, 0, 0, 0, 0, 0, 0, 0], [0, 0, 0, 0, 0, 0, 0, 0], 0, [0, 0, 0, 0, 0, 0, 0, 0], 0, 2, 1, 0, false, 0⟩ v 9 ∧ w'.cell? ⟨g, 0, none⟩ = some (.int .i64 1) ∧ w'.cell? ⟨g, 1, none⟩ = some (.string Im.t31) ∧ w.heap.size ≤ g ∧ g < w'.heap.size ∧ w.grownBy w' (some B) := by
  refine (run_any (xs := Im.xsE) h (m0_ok 3 9 (by decide) (by decide)) xsE_pok.good hC hE (by decide) (by decide) 2 (by decide)).mono ?_
  rintro e w' ⟨u, rfl, hm, ho, hg⟩
  rw [show Int.toNat 2 = 2 from rfl, itrE] at hm ho
  rw [textE] at ho
  obtain ⟨g, cap, rfl⟩ := own_some (n := 1) ho (by decide)
  exact ⟨g, cap, rfl, hm, ho.cells (g := g) rfl 0 _ rfl, ho.cells (g := g) rfl 1 (.string Im.t31) rfl, (ho.lt g rfl).1, (ho.lt g rfl).2, hg⟩
theorem stepE {w : World} {B : Nat} {v : Value} (h : Mb w B ⟨2, [4609434218613702656, 0, 0, 0, 0, 0, 0, 0], [0, 0, 0, 0, 0, 0, 0, 0], 0, [0, 0, 0, 0, 0, 0, 0, 0], 0, 2, 1, 0, false, 0⟩ v 9) (hC : Cdn w v Im.xsE B) (hE : Env w B) :
    Calls Tryz.prog 36 #[.pointer (some ⟨B, 0, none⟩)] w fun e w' => e = .returned (.tuple #[.agg #[.int .i64 0, .string ⟨#[]⟩], .int .i64 0]) ∧ Mb w' B ⟨3, [4609434218613702656, 0, 0, 0, 0, 0, 0, 0], [0, 0, 0, 0, 0, 0, 0, 0], 0, [0, 0, 0, 0, 0, 0, 0, 0], 0, 3, 1, 0, true, 0⟩ v 9 ∧ w.grownBy w' (some B) := by
  have hk := itr_ok (xs := Im.xsE) (m0_ok 3 9 (by decide) (by decide)) xsE_pok.good (fuel := 9) 2
  rw [itrE] at hk
  refine (step_live (xs := Im.xsE) h rfl hk xsE_pok.good hC hE (by decide) (by decide)).mono ?_
  rintro e w' ⟨rfl, hm, hg⟩
  rw [stpE] at hm ⊢
  exact ⟨rfl, hm, hg⟩
abbrev mE : Mc := ⟨3, [4609434218613702656, 0, 0, 0, 0, 0, 0, 0], [0, 0, 0, 0, 0, 0, 0, 0], 0, [0, 0, 0, 0, 0, 0, 0, 0], 0, 3, 1, 0, true, 0⟩
theorem doneE {w : World} {B : Nat} {v : Value} (h : Mb w B mE v 9) : Calls Tryz.prog 16 #[.pointer (some ⟨B, 0, none⟩)] w fun e w' => e = .returned (.int .i64 3) ∧ w' = w := done_any h
theorem resultE {w : World} {B : Nat} {v : Value} (h : Mb w B mE v 9) : Calls Tryz.prog 15 #[.pointer (some ⟨B, 0, none⟩)] w fun e w' => e = .returned (.agg #[.int .i64 0, .int .u64 4609434218613702656]) ∧ Below w.heap.size w w' := result_any h
end Go.Proofs.YtpgehocadohkiaaGreatDoor
end

section
namespace Go.Proofs.YtpgehocadohkiaaGreatDoor
open Go.RowKit Go.Shelf

theorem doM_trap (m : Mc) (x : In) (many : Nat) : (Im.doM m x many).1 ≠ 1 := by
  refine doM_ind (P := fun d => d.1 ≠ 1) m x many ?_ ?_ ?_ ?_ ?_ ?_ ?_ ?_ ?_ ?_ ?_ ?_ ?_ ?_ ?_ ?_ ?_ ?_ ?_ ?_
  all_goals exact fun _ h => absurd h (by dsimp only; omega)
/-- a step with less fuel and with more -/
theorem stp_more {xs : List In} {f d : Nat} {m : Mc} (h : m.Ok xs.length f) (ho : m.ov = false) (hd : 0 < d) :
    ((Im.stp xs f m).1.en ≠ 1 ∧ Im.stp xs (f + d) m = Im.stp xs f m) ∨ ((Im.stp xs f m).1.en = 1 ∧ (Im.stp xs f m).1.ov = true ∧ (Im.stp xs f m).1.dn = f ∧ (Im.stp xs (f + d) m).1.ov = false ∧ (Im.stp xs (f + d) m).1.dn = f ∧ (Im.stp xs (f + d) m).2 = (Im.stp xs f m).2) := by
  have hl := h.live ho
  have hk := doM_keeps (Im.ready m) xs[m.pl]! xs.length
  have ht := doM_trap (Im.ready m) xs[m.pl]! xs.length
  have hen : (Im.doM (Im.ready m) xs[m.pl]! xs.length).2.1.en = 0 := hk.2.1.trans hl.2.2
  have hdn : (Im.doM (Im.ready m) xs[m.pl]! xs.length).2.1.dn = m.dn + 1 := hk.1
  unfold Im.stp
  generalize Im.doM (Im.ready m) xs[m.pl]! xs.length = D at *
  by_cases h0 : D.1 = 0
  · rw [if_pos h0, if_pos h0]
    unfold Im.settle
    by_cases h1 : D.2.1.ov = true
    · rw [if_pos h1, if_pos h1]
      exact .inl ⟨by rw [hen]; decide, rfl⟩
    rw [if_neg h1, if_neg h1]
    by_cases h2 : D.2.1.pl = xs.length
    · rw [if_pos h2, if_pos h2]
      exact .inl ⟨by show D.2.1.en ≠ 1; rw [hen]; decide, rfl⟩
    rw [if_neg h2, if_neg h2]
    by_cases h3 : D.2.1.dn = f
    · rw [if_pos h3, if_neg (by omega)]
      exact .inr ⟨rfl, rfl, h3, by simpa using h1, h3, rfl⟩
    · rw [if_neg h3, if_neg (by have := hl.2.1; omega)]
      exact .inl ⟨by show D.2.1.en ≠ 1; rw [hen]; decide, rfl⟩
  · rw [if_neg h0, if_neg h0]
    exact .inl ⟨ht, rfl⟩
theorem nxt_live {xs : List In} {f : Nat} {s : Mc × List (Nat × ByteArray)} (h : s.1.ov = false) : Im.nxt xs f s = ((Im.stp xs f s.1).1, if (Im.stp xs f s.1).2.1 = 0 then s.2 else s.2 ++ [(Im.stp xs f s.1).2]) := by
  unfold Im.nxt; rw [if_neg (by rw [h]; decide)]
theorem itr_same {xs : List In} {f d : Nat} (hd : 0 < d) (g : ∀ x ∈ xs, x.Good xs.length) {m : Mc} (h : m.Ok xs.length f) : ∀ k, (Im.itr xs f m k).1.ov = false → Im.itr xs (f + d) m k = Im.itr xs f m k
  | 0, _ => rfl
  | k + 1, ho => by
    by_cases h1 : (Im.itr xs f m k).1.ov = true
    · rw [itr_over h1 1, h1] at ho; cases ho
    rw [Bool.not_eq_true] at h1
    have ih := itr_same hd g h k h1
    show Im.nxt xs (f + d) (Im.itr xs (f + d) m k) = Im.nxt xs f (Im.itr xs f m k)
    have ho' : (Im.nxt xs f (Im.itr xs f m k)).1.ov = false := ho
    rw [ih]
    rw [nxt_live h1] at ho'
    rw [nxt_live h1, nxt_live h1]
    rcases stp_more (itr_ok h g k) h1 hd with ⟨_, h2⟩ | ⟨_, h2, _⟩
    · rw [h2]
    · rw [show (Im.stp xs f (Im.itr xs f m k).1).1.ov = true from h2] at ho'; cases ho'
/-- the step that ends it -/
theorem itr_last {xs : List In} {f : Nat} {m : Mc} (hm : m.ov = false) : ∀ n, (Im.itr xs f m n).1.ov = true → ∃ k, k < n ∧ (Im.itr xs f m k).1.ov = false ∧ Im.itr xs f m (k + 1) = Im.itr xs f m n
  | 0, h => by rw [show (Im.itr xs f m 0).1.ov = m.ov from rfl, hm] at h; cases h
  | n + 1, h => by
    by_cases h1 : (Im.itr xs f m n).1.ov = true
    · obtain ⟨k, hk, h2, h3⟩ := itr_last hm n h1
      exact ⟨k, by omega, h2, h3.trans (itr_over h1 1).symm⟩
    · exact ⟨n, by omega, by simpa using h1, rfl⟩
theorem itr_ends {xs : List In} {f : Nat} {m : Mc} (h : m.Ok xs.length f) (g : ∀ x ∈ xs, x.Good xs.length) (n : Nat) (hn : f ≤ m.dn + n) : (Im.itr xs f m n).1.ov = true := by
  by_cases h1 : (Im.itr xs f m n).1.ov = true
  · exact h1
  · rw [Bool.not_eq_true] at h1
    have h2 := itr_dn h g n h1
    have h3 := ((itr_ok h g n).live h1).2.1
    omega
theorem itr_pre (xs : List In) (f : Nat) (m : Mc) (k : Nat) : ∀ j, ∃ t, (Im.itr xs f m (k + j)).2 = (Im.itr xs f m k).2 ++ t
  | 0 => ⟨[], by simp⟩
  | j + 1 => by
    obtain ⟨t, ht⟩ := itr_pre xs f m k j
    show ∃ t, (Im.nxt xs f (Im.itr xs f m (k + j))).2 = _
    unfold Im.nxt
    split
    · exact ⟨t, ht⟩
    · dsimp only
      split
      · exact ⟨t, ht⟩
      · exact ⟨t ++ [(Im.stp xs f (Im.itr xs f m (k + j)).1).2], by rw [ht, List.append_assoc]⟩
theorem itr_dn_le (xs : List In) (f : Nat) (m : Mc) (k : Nat) : ∀ j, (Im.itr xs f m k).1.dn ≤ (Im.itr xs f m (k + j)).1.dn
  | 0 => Nat.le_refl _
  | j + 1 => by
    refine Nat.le_trans (itr_dn_le xs f m k j) ?_
    show _ ≤ (Im.nxt xs f (Im.itr xs f m (k + j))).1.dn
    unfold Im.nxt
    split
    · exact Nat.le_refl _
    · show _ ≤ (Im.stp xs f _).1.dn
      rw [stp_dn]; omega
theorem Mc.Ok.more {m : Mc} {many f : Nat} (h : m.Ok many f) (d : Nat) : m.Ok many (f + d) := { h with dn := Nat.le_trans h.dn (Nat.le_add_right _ _), live := fun ho => ⟨(h.live ho).1, Nat.lt_of_lt_of_le (h.live ho).2.1 (Nat.le_add_right _ _), (h.live ho).2.2⟩ }
/-- more fuel -/
theorem fuel_more {xs : List In} {f d : Nat} (hd : 0 < d) (hp : Pok f xs) :
    ((Im.end_ xs f).1.en ≠ 1 ∧ Im.end_ xs (f + d) = Im.end_ xs f) ∨ ((Im.end_ xs f).1.en = 1 ∧ (Im.end_ xs f).1.dn = f ∧ f < (Im.end_ xs (f + d)).1.dn ∧ ∃ t, (Im.end_ xs (f + d)).2 = (Im.end_ xs f).2 ++ t) := by
  have h0 := m0_ok xs.length f hp.l1 hp.f1
  have ho := itr_ends h0 hp.good f (by show f ≤ 0 + f; omega)
  obtain ⟨k, hk, h1, h2⟩ := itr_last (m := Im.m0) rfl f ho
  have hs := itr_same hd hp.good h0 k h1
  have e1 : Im.itr xs f Im.m0 (k + 1) = Im.nxt xs f (Im.itr xs f Im.m0 k) := rfl
  have e2 : Im.itr xs (f + d) Im.m0 (k + 1) = Im.nxt xs (f + d) (Im.itr xs f Im.m0 k) := by show Im.nxt xs (f + d) _ = _; rw [hs]
  unfold Im.nxt at e1 e2
  rw [if_neg (by rw [h1]; decide)] at e1 e2
  have ed : Im.end_ xs f = Im.itr xs f Im.m0 (k + 1) := h2.symm
  obtain ⟨j, hj⟩ : ∃ j, f + d = k + 1 + j := ⟨f + d - (k + 1), by omega⟩
  rcases stp_more (itr_ok h0 hp.good k) h1 hd with ⟨h3, h4⟩ | ⟨h3, h4, h5, h6, h7, h8⟩
  · left
    rw [h4, ← e1] at e2
    refine ⟨by rw [ed, e1]; exact h3, ?_⟩
    show Im.itr xs (f + d) Im.m0 (f + d) = _
    have hov : (Im.itr xs (f + d) Im.m0 (k + 1)).1.ov = true := by rw [e2, h2]; exact ho
    rw [hj] at hov e2 ⊢
    rw [itr_over hov j, e2, ed]
  · right
    have hnot : (Im.itr xs (f + d) Im.m0 (k + 1)).1.ov = false := by rw [e2]; exact h6
    have hdn : (Im.itr xs (f + d) Im.m0 (k + 1)).1.dn = f := by rw [e2]; exact h7
    have hac : (Im.itr xs (f + d) Im.m0 (k + 1)).2 = (Im.itr xs f Im.m0 (k + 1)).2 := by rw [e1, e2]; dsimp only; rw [h8]
    refine ⟨by rw [ed, e1]; exact h3, by rw [ed, e1]; exact h5, ?_, ?_⟩
    · have hend := itr_ends (h0.more d) hp.good (f + d) (by show f + d ≤ 0 + (f + d); omega)
      have hlt := ((itr_ok (h0.more d) hp.good (k + 1)).live hnot).2.1
      obtain ⟨i, hi⟩ : ∃ i, f + d = (k + 1 + 1) + i := ⟨f + d - (k + 2), by rw [itr_dn (h0.more d) hp.good _ hnot] at hdn; have : Im.m0.dn = 0 := rfl; omega⟩
      have h9 : (Im.itr xs (f + d) Im.m0 (k + 1 + 1)).1.dn = f + 1 := by
        show (Im.nxt xs (f + d) (Im.itr xs (f + d) Im.m0 (k + 1))).1.dn = _
        unfold Im.nxt
        rw [if_neg (by rw [hnot]; decide)]
        show (Im.stp xs (f + d) _).1.dn = _
        rw [stp_dn, hdn]
      have h10 := itr_dn_le xs (f + d) Im.m0 (k + 1 + 1) i
      rw [h9] at h10
      show f < (Im.itr xs (f + d) Im.m0 (f + d)).1.dn
      have : (Im.itr xs (f + d) Im.m0 (k + 1 + 1 + i)).1.dn = (Im.itr xs (f + d) Im.m0 (f + d)).1.dn := by rw [← hi]
      omega
    · obtain ⟨t, ht⟩ := itr_pre xs (f + d) Im.m0 (k + 1) j
      refine ⟨t, ?_⟩
      show (Im.itr xs (f + d) Im.m0 (f + d)).2 = _
      rw [← hj] at ht
      rw [ht, hac, ed]
theorem chk_cat (a b : List (Nat × ByteArray)) : Im.chk (a ++ b) = Im.chk a ++ Im.chk b := by unfold Im.chk; rw [List.filter_append, List.map_append]
theorem pcs_cat (a b : List (Nat × ByteArray)) : Im.pcs (a ++ b) = Im.pcs a ++ Im.pcs b := by unfold Im.pcs; rw [List.filter_append, List.map_append]
theorem resC_en {m : Mc} : Im.resC m = m.en := by unfold Im.resC; split; rename_i h; exact h.2.symm; rfl
/-- more fuel still may be -/
theorem check_more {f d : Nat} {xs : List In} (h : Pg.checkE f xs = (0, 0)) (hd : f + d ≤ 1024) : Pg.checkE ((f : Int) + (d : Int)) xs = (0, 0) := by
  unfold Pg.checkE at h ⊢
  split at h
  · cases h
  rename_i h1
  rw [if_neg (by omega)]
  exact h
end Go.Proofs.YtpgehocadohkiaaGreatDoor
end

section
namespace Go.Proofs.YtpgehocadohkiaaGreatDoor
open Go.RowKit Go.Shelf

/-- a slice of texts that is only read -/
structure Sl (w : World) (v : Value) (l : List ByteArray) : Prop where
  form : ∃ p cap, v = .slice p l.length cap ∧ l.length ≤ cap ∧ (0 < l.length → ∃ b off, p = some ⟨b, off, none⟩ ∧ b < w.heap.size ∧ ∀ j, j < l.length → w.cell? ⟨b, off + j, none⟩ = some (.string l[j]!))
theorem Sl.below {w w' : World} {v : Value} {l : List ByteArray} (h : Sl w v l) (k : Below w.heap.size w w') : Sl w' v l := by
  obtain ⟨p, cap, hv, hcl, h1⟩ := h
  refine ⟨p, cap, hv, hcl, fun h0 => ?_⟩
  obtain ⟨b, off, hp, hb, hc⟩ := h1 h0
  exact ⟨b, off, hp, Nat.lt_of_lt_of_le hb k.size, fun j hj => (k.cell (p := ⟨b, off + j, none⟩) hb).trans (hc j hj)⟩
theorem strs_at (l : List ByteArray) (j : Nat) (h : j < l.length) : (Im.strs l)[j]? = some (.string l[j]!) := by
  unfold Im.strs; rw [List.getElem?_map, List.getElem?_eq_getElem h, getElem!_pos l j h]; rfl
theorem sl_of {w : World} {base : Nat} {v : Value} {l : List ByteArray} (h : w.ownsRow base 9 1 v l.length (Im.strs l)) : Sl w v l := by
  have hf := h.2
  rcases hf with ⟨h1, h2⟩ | ⟨g, cap, cur, rfl, hg, hh, h3⟩
  · exact ⟨none, 0, by rw [h2]; exact h1, by omega, fun h0 => by omega⟩
  · have hcap : l.length ≤ cap := by have := h3; omega
    refine ⟨some ⟨g, 0, none⟩, cap, rfl, hcap, fun _ => ⟨g, 0, rfl, lt_of_block hh, fun j hj => ?_⟩⟩
    have := h.cells (g := g) rfl j _ (strs_at l j hj)
    rw [addr_add] at this
    exact this
theorem bd_drew (w : World) (n : Nat) : Below w.heap.size w (w.drewN n) := ⟨rfl, rfl, rfl, Nat.le_refl _, fun _ _ => rfl⟩
theorem beq_self (s : ByteArray) : (s.toList == s.toList) = true := by simp
set_option maxHeartbeats 1000000 in
theorem sameTexts_eq {w : World} {v1 v2 : Value} {l : List ByteArray} (h1 : Sl w v1 l) (h2 : Sl w v2 l) (hl : l.length < 1000000) :
    Calls Tryz.prog 27 #[v1, v2] w fun e w' => e = .returned (.bool true) ∧ Below w.heap.size w w' := by
  obtain ⟨p1, cap1, rfl, -, k1⟩ := h1
  obtain ⟨p2, cap2, rfl, -, k2⟩ := h2
  go_enter Tryz.func27, Tryz.ntmps27
  go_wp2_with fail
  go_loopw [5] (fun t wr => ∃ i q : Nat, t = .int .i64 (i : Int) ∧ i ≤ l.length ∧ wr = w.drewN q) (fun t _ => l.length - (intOf t).toNat)
  case atStart => exact ⟨0, 0, rfl, Nat.zero_le _, rfl⟩
  case round =>
    obtain ⟨i, q, rfl, hil, rfl⟩ := hrel
    by_cases hlt : i < l.length
    · obtain ⟨b1, o1, rfl, _, c1⟩ := k1 (by omega)
      obtain ⟨b2, o2, rfl, _, c2⟩ := k2 (by omega)
      have d1 := c1 i hlt
      have d2 := c2 i hlt
      generalize l[i]! = s at *
      have hbe := beq_self s
      have hii : (i : Int) < (l.length : Int) := by omega
      have hn : ¬ l.length ≤ i := by omega
      go_wp2_with fail
      go_quiet (fail)
      go_wp2_with fail
      go_roundw
      case rel => exact ⟨i + 1, _, by go_num, by omega, rfl⟩
      case measure => simp [intOf]; omega
    · obtain rfl : i = l.length := by omega
      have hii : ¬ (l.length : Int) < (l.length : Int) := by omega
      go_wp2_with fail
      go_ret
      exact ⟨rfl, bd_drew w q⟩
/-- an outcome, read -/
structure OutS (w : World) (o : Value) (c b st : Nat) (ch pc : List ByteArray) : Prop where
  form : ∃ cv pv, o = .agg #[.int .i64 (c : Int), .int .u64 (b : Int), cv, pv, .int .i64 (st : Int)] ∧ Sl w cv ch ∧ Sl w pv pc
theorem OutS.below {w w' : World} {o : Value} {c b st : Nat} {ch pc : List ByteArray} (h : OutS w o c b st ch pc) (k : Below w.heap.size w w') : OutS w' o c b st ch pc := by
  obtain ⟨cv, pv, ho, h1, h2⟩ := h
  exact ⟨cv, pv, ho, h1.below k, h2.below k⟩
theorem out_s {w : World} {base : Nat} {o : Value} {I : Mc × List (Nat × ByteArray)} (h : Out w base o I) : OutS w o (Im.resC I.1) (Im.resB I.1) I.1.dn (Im.chk I.2) (Im.pcs I.2) := by
  obtain ⟨cv, pv, ho, h1, h2⟩ := h
  exact ⟨cv, pv, ho, sl_of h1, sl_of h2⟩
set_option maxHeartbeats 1000000 in
theorem sameOutcome_eq {w : World} {o1 o2 : Value} {c b st : Nat} {ch pc : List ByteArray} (h1 : OutS w o1 c b st ch pc) (h2 : OutS w o2 c b st ch pc) (hl1 : ch.length < 1000000) (hl2 : pc.length < 1000000) :
    Calls Tryz.prog 9 #[o1, o2] w fun e w' => e = .returned (.bool true) ∧ Below w.heap.size w w' := by
  obtain ⟨cv1, pv1, rfl, a1, a2⟩ := h1
  obtain ⟨cv2, pv2, rfl, b1, b2⟩ := h2
  have HS1 := hide (fun w1 (k1 : Sl w1 cv1 ch) (k2 : Sl w1 cv2 ch) => sameTexts_eq k1 k2 hl1)
  have HS2 := hide (fun w1 (k1 : Sl w1 pv1 pc) (k2 : Sl w1 pv2 pc) => sameTexts_eq k1 k2 hl2)
  have HA1 := hide a1
  have HA2 := hide a2
  have HB1 := hide b1
  have HB2 := hide b2
  obtain ⟨p1, c1, rfl, -, -⟩ := a1
  obtain ⟨p2, c2, rfl, -, -⟩ := a2
  obtain ⟨p3, c3, rfl, -, -⟩ := b1
  obtain ⟨p4, c4, rfl, -, -⟩ := b2
  go_enter Tryz.func9, Tryz.ntmps9
  go_wp2_with fail
  have hW : Below w.heap.size w ((w.alloc (.cells #[.int .i64 (c : Int), .int .u64 (b : Int), .slice p1 ch.length c1, .slice p2 pc.length c2, .int .i64 (st : Int)] 32)).alloc (.cells #[.int .i64 (c : Int), .int .u64 (b : Int), .slice p3 ch.length c3, .slice p4 pc.length c4, .int .i64 (st : Int)] 32)) := (below_one w _).trans ((below_one _ _).mono (by simp))
  refine (HS1.out _ (HA1.out.below hW) (HB1.out.below hW)).mono ?_
  rintro e w3 ⟨rfl, hb3⟩
  have HB3 : Hid (Below w.heap.size w w3) := hW.trans (hb3.mono (by simp; omega))
  have x1 : w3.heap[w.heap.size]? = some (.cells #[.int .i64 (c : Int), .int .u64 (b : Int), .slice p1 ch.length c1, .slice p2 pc.length c2, .int .i64 (st : Int)] 32 (0, 0)) := (hb3.block w.heap.size (by simp; omega)).trans ((heap_alloc_old _ _ (by simp)).trans (heap_alloc_new w _))
  have x2 : w3.heap[w.heap.size + 1]? = some (.cells #[.int .i64 (c : Int), .int .u64 (b : Int), .slice p3 ch.length c3, .slice p4 pc.length c4, .int .i64 (st : Int)] 32 (0, 0)) := (hb3.block (w.heap.size + 1) (by simp)).trans (by have q := heap_alloc_new (w.alloc (.cells #[.int .i64 (c : Int), .int .u64 (b : Int), .slice p1 ch.length c1, .slice p2 pc.length c2, .int .i64 (st : Int)] 32)) (.cells #[.int .i64 (c : Int), .int .u64 (b : Int), .slice p3 ch.length c3, .slice p4 pc.length c4, .int .i64 (st : Int)] 32); rw [World.size_alloc] at q; exact q)
  have y1 : w3.cell? ⟨w.heap.size, 3, none⟩ = some (.slice p2 pc.length c2) := (five_of x1).2.2.2.1
  have y2 : w3.cell? ⟨w.heap.size + 1, 3, none⟩ = some (.slice p4 pc.length c4) := (five_of x2).2.2.2.1
  clear x1 x2 hb3 hW
  go_wp2_with fail
  refine (HS2.out _ (HA2.out.below HB3.out) (HB2.out.below HB3.out)).mono ?_
  rintro e w4 ⟨rfl, hb4⟩
  go_wp2_with fail
  go_ret
  exact ⟨rfl, HB3.out.trans (hb4.mono HB3.out.size)⟩
set_option maxRecDepth 20000 in
set_option maxHeartbeats 2000000 in
theorem whole_no {w : World} {v : Value} {fuel : Int} {xs : List In} (hx : ∀ x ∈ xs, x.Fits) (h : Cd w v xs) (hc : (Pg.checkE fuel xs).1 ≠ 0) :
    Calls Tryz.prog 4 #[.agg #[.int .i64 fuel, v]] w fun e w' => e = .returned (.tuple #[.agg #[.int .i64 0, .int .u64 0, .slice none 0 0, .slice none 0 0, .int .i64 0], .int .i64 (Pg.checkE fuel xs).1]) ∧ Below w.heap.size w w' := by
  have HN := hide (fun w1 (h1 : Cd w1 v xs) => new_no hx h1 hc)
  have HCd := hide h
  obtain ⟨p, cap, rfl, -⟩ := h
  generalize Pg.checkE fuel xs = E at *
  have hb : (E.1 != 0) = true := by rw [bne_iff_ne]; exact hc
  clear hc hx
  go_enter Tryz.func4, Tryz.ntmps4
  go_wp2_with fail
  have hW : Below w.heap.size w ((w.alloc (.cells #[.int .i64 fuel, .slice p xs.length cap] 24)).alloc (.cells #[.int .i64 0, .int .u64 0, .slice none 0 0, .slice none 0 0, .int .i64 0] 32)) := (below_one w _).trans ((below_one _ _).mono (by simp))
  refine (HN.out _ (HCd.out.below hW (Nat.le_refl _))).mono ?_
  rintro e w1 ⟨rfl, hb1⟩
  have hr : w1.heap[w.heap.size + 1]? = some (.cells #[.int .i64 0, .int .u64 0, .slice none 0 0, .slice none 0 0, .int .i64 0] 32 (0, 0)) := (hb1.block (w.heap.size + 1) (by simp)).trans (by have q := heap_alloc_new (w.alloc (.cells #[.int .i64 fuel, .slice p xs.length cap] 24)) (.cells #[.int .i64 0, .int .u64 0, .slice none 0 0, .slice none 0 0, .int .i64 0] 32); rw [World.size_alloc] at q; exact q)
  have HB1 : Hid (Below w.heap.size w w1) := hW.trans (hb1.mono (by simp; omega))
  have HR := hide hr
  obtain ⟨r0, r1, r2, r3, r4, rz⟩ := five_of hr
  clear hb1 hr
  go_wp2_with fail
  have q1 := block_set (block_set (block_set (block_set (block_set HR.out 0 (.int .i64 0)) 1 (.int .u64 0)) 2 (.slice none 0 0)) 3 (.slice none 0 0)) 4 (.int .i64 0)
  have gC := i_grown_trans (i_grown_set w1 (w.heap.size + 1) 0 (.int .i64 0)) (i_grown_trans (i_grown_set _ (w.heap.size + 1) 1 (.int .u64 0)) (i_grown_trans (i_grown_set _ (w.heap.size + 1) 2 (.slice none 0 0)) (i_grown_trans (i_grown_set _ (w.heap.size + 1) 3 (.slice none 0 0)) (i_grown_set _ (w.heap.size + 1) 4 (.int .i64 0)))))
  exact bodyPost_ret (res5 rfl _ _ (w.heap.size + 1) _ (.int .i64 E.1) rfl rfl q1 rfl) rfl ⟨rfl, HB1.out.trans (i_below_of_grown (grown_none w1 0 (some (w.heap.size + 1))) gC (by omega) (by omega) HB1.out.size)⟩
end Go.Proofs.YtpgehocadohkiaaGreatDoor
end

section
namespace Go.Proofs.YtpgehocadohkiaaGreatDoor
open Go.RowKit Go.Shelf

/-- a slice of ints that is only read -/
structure Ns (w : World) (v : Value) (l : List Int) : Prop where
  form : ∃ p cap, v = .slice p l.length cap ∧ (0 < l.length → ∃ b off, p = some ⟨b, off, none⟩ ∧ b < w.heap.size ∧ ∀ j, j < l.length → w.cell? ⟨b, off + j, none⟩ = some (.int .i64 l[j]!))
  len : l.length ≤ 9223372036854775807
  hi : ∀ x ∈ l, x ≤ 9223372036854775807
theorem Ns.below {w w' : World} {v : Value} {l : List Int} (h : Ns w v l) (k : Below w.heap.size w w') : Ns w' v l := by
  obtain ⟨⟨p, cap, hv, h1⟩, h2, h3⟩ := h
  refine ⟨⟨p, cap, hv, fun h0 => ?_⟩, h2, h3⟩
  obtain ⟨b, off, hp, hb, hc⟩ := h1 h0
  exact ⟨b, off, hp, Nat.lt_of_lt_of_le hb k.size, fun j hj => (k.cell (p := ⟨b, off + j, none⟩) hb).trans (hc j hj)⟩
theorem nd_up : ∀ k u : Nat, u < 10 ^ (k + 1) → Lib.nDigits u ≤ k + 1
  | 0, u, h => by rw [Lib.nDigits_small (by simpa using h)]; exact Nat.le_refl _
  | k + 1, u, h => by
    by_cases h1 : u < 10
    · rw [Lib.nDigits_small h1]; omega
    · rw [Lib.nDigits_big h1]
      have := nd_up k (u / 10) (by rw [Nat.pow_succ] at h; omega)
      omega
theorem itoa_short (n : Int) (h1 : -2000 ≤ n) (h2 : n ≤ 2000) : (Lib.itoa n).length ≤ 5 := by
  unfold Lib.itoa
  split
  · have := nd_up 3 n.natAbs (by show n.natAbs < 10000; omega); rw [List.length_cons, Lib.decDigits_length]; omega
  · have := nd_up 3 n.toNat (by show n.toNat < 10000; omega); rw [Lib.decDigits_length]; omega
theorem amt_short (a : Nat) : (amtB a).size ≤ 22 := by
  unfold amtB
  split
  · decide
  split
  · decide
  split
  · decide
  · next h1 h2 h3 =>
    have hc : 3 ≤ clsN a := by omega
    have hM := tM_lt a
    have hz := ctz_lt (tM a) (tM_ne a hc) (by omega)
    have hE := tE_bd a
    have ho : oN a ≤ tM a := Nat.div_le_self _ _
    have l1 := nd_up 15 (oN a) (by show oN a < 10000000000000000; omega)
    rw [← Lib.decDigits_length] at l1
    have l2 := itoa_short (pN a) (by unfold pN; omega) (by unfold pN; omega)
    simp only [ByteArray.size_append]
    show (Lib.decDigits (oN a)).toArray.size + 1 + (Lib.itoa (pN a)).toArray.size ≤ 22
    simp
    omega
theorem text_short (a : Nat) : (textB a).size ≤ 32 := by
  unfold textB
  split
  · have := amt_short (Gn.canonW a); omega
  · have := amt_short (Gn.canonW a % 9223372036854775808)
    rw [ByteArray.size_append]
    show 1 + (amtB (Gn.canonW a % 9223372036854775808)).size ≤ 32
    omega
theorem doM_told (m : Mc) (x : In) (many : Nat) : (Im.doM m x many).1 = 0 →
    ((Im.doM m x many).2.2.1 = 0 ∧ (Im.doM m x many).2.1.ch = m.ch ∧ (Im.doM m x many).2.1.pc = m.pc) ∨
    ((Im.doM m x many).2.2.1 = 1 ∧ (Im.doM m x many).2.1.ch = m.ch + 1 ∧ (Im.doM m x many).2.1.pc = m.pc ∧ (Im.doM m x many).2.2.2.size ≤ 32) ∨
    ((Im.doM m x many).2.2.1 = 2 ∧ (Im.doM m x many).2.1.ch = m.ch ∧ (Im.doM m x many).2.1.pc = m.pc + 1 ∧ (Im.doM m x many).2.2.2.size ≤ 32) := by
  refine doM_ind (P := fun d => d.1 = 0 → (d.2.2.1 = 0 ∧ d.2.1.ch = m.ch ∧ d.2.1.pc = m.pc) ∨ (d.2.2.1 = 1 ∧ d.2.1.ch = m.ch + 1 ∧ d.2.1.pc = m.pc ∧ d.2.2.2.size ≤ 32) ∨ (d.2.2.1 = 2 ∧ d.2.1.ch = m.ch ∧ d.2.1.pc = m.pc + 1 ∧ d.2.2.2.size ≤ 32)) m x many ?_ ?_ ?_ ?_ ?_ ?_ ?_ ?_ ?_ ?_ ?_ ?_ ?_ ?_ ?_ ?_ ?_ ?_ ?_ ?_
  all_goals intro _ _
  all_goals first
    | exact .inl ⟨rfl, rfl, rfl⟩
    | exact .inr (.inl ⟨rfl, rfl, rfl, text_short _⟩)
    | exact .inr (.inr ⟨rfl, rfl, rfl, text_short _⟩)
theorem settle_ch (m : Mc) (many fuel : Nat) : (Im.settle m many fuel).ch = m.ch ∧ (Im.settle m many fuel).pc = m.pc := by
  unfold Im.settle; repeat' split
  all_goals exact ⟨rfl, rfl⟩
/-- what was told, and how much of it -/
structure Told (s : Mc × List (Nat × ByteArray)) : Prop where
  c : (Im.chk s.2).length = s.1.ch
  p : (Im.pcs s.2).length = s.1.pc
  t : ∀ a ∈ s.2, a.2.size ≤ 32
theorem told_nxt {xs : List In} {f : Nat} {s : Mc × List (Nat × ByteArray)} (h : Told s) : Told (Im.nxt xs f s) := by
  by_cases ho : s.1.ov = true
  · unfold Im.nxt; rw [if_pos ho]; exact h
  rw [Bool.not_eq_true] at ho
  rw [nxt_live ho]
  have hd := doM_told (Im.ready s.1) xs[s.1.pl]! xs.length
  have hst : Im.stp xs f s.1 = if (Im.doM (Im.ready s.1) xs[s.1.pl]! xs.length).1 = 0 then (Im.settle (Im.doM (Im.ready s.1) xs[s.1.pl]! xs.length).2.1 xs.length f, (Im.doM (Im.ready s.1) xs[s.1.pl]! xs.length).2.2) else (Im.trapped s.1 (Im.doM (Im.ready s.1) xs[s.1.pl]! xs.length).1, 0, ByteArray.empty) := rfl
  have e2 : (Im.ready s.1).ch = s.1.ch := rfl
  have e3 : (Im.ready s.1).pc = s.1.pc := rfl
  rw [e2, e3] at hd
  generalize Im.doM (Im.ready s.1) xs[s.1.pl]! xs.length = D at *
  by_cases h0 : D.1 = 0
  · rw [if_pos h0] at hst
    have hs := settle_ch D.2.1 xs.length f
    rw [hst]
    dsimp only
    rcases hd h0 with ⟨k1, k2, k3⟩ | ⟨k1, k2, k3, k4⟩ | ⟨k1, k2, k3, k4⟩
    · rw [if_pos k1]
      exact ⟨by show (Im.chk s.2).length = (Im.settle _ _ _).ch; rw [hs.1, k2]; exact h.c, by show (Im.pcs s.2).length = (Im.settle _ _ _).pc; rw [hs.2, k3]; exact h.p, h.t⟩
    · rw [if_neg (by omega)]
      refine ⟨?_, ?_, ?_⟩
      · show (Im.chk (s.2 ++ [D.2.2])).length = (Im.settle _ _ _).ch
        rw [hs.1, k2, chk_app, if_pos k1, List.length_append, h.c]; rfl
      · show (Im.pcs (s.2 ++ [D.2.2])).length = (Im.settle _ _ _).pc
        rw [hs.2, k3, pcs_app, if_pos k1, h.p]
      · intro a ha
        rcases List.mem_append.1 ha with q | q
        · exact h.t a q
        · rw [List.mem_singleton.1 q]; exact k4
    · rw [if_neg (by omega)]
      refine ⟨?_, ?_, ?_⟩
      · show (Im.chk (s.2 ++ [D.2.2])).length = (Im.settle _ _ _).ch
        rw [hs.1, k2, chk_app, if_neg (by omega), h.c]
      · show (Im.pcs (s.2 ++ [D.2.2])).length = (Im.settle _ _ _).pc
        rw [hs.2, k3, pcs_app, if_neg (by omega), List.length_append, h.p]; rfl
      · intro a ha
        rcases List.mem_append.1 ha with q | q
        · exact h.t a q
        · rw [List.mem_singleton.1 q]; exact k4
  · rw [if_neg h0] at hst
    rw [hst]
    dsimp only
    rw [if_pos rfl]
    exact ⟨h.c, h.p, h.t⟩
theorem told_itr (xs : List In) (f : Nat) : ∀ k, Told (Im.itr xs f Im.m0 k)
  | 0 => ⟨rfl, rfl, fun a h => by cases h⟩
  | k + 1 => told_nxt (told_itr xs f k)
theorem itr_add (xs : List In) (f : Nat) (m : Mc) (a : Nat) : ∀ b, Im.itr xs f m (a + b) = ((Im.itr xs f (Im.itr xs f m a).1 b).1, (Im.itr xs f m a).2 ++ (Im.itr xs f (Im.itr xs f m a).1 b).2)
  | 0 => by show Im.itr xs f m a = ((Im.itr xs f m a).1, (Im.itr xs f m a).2 ++ []); rw [List.append_nil]
  | b + 1 => by
    show Im.nxt xs f (Im.itr xs f m (a + b)) = ((Im.nxt xs f (Im.itr xs f (Im.itr xs f m a).1 b)).1, (Im.itr xs f m a).2 ++ (Im.nxt xs f (Im.itr xs f (Im.itr xs f m a).1 b)).2)
    rw [itr_add xs f m a b]
    generalize Im.itr xs f (Im.itr xs f m a).1 b = J
    by_cases ho : J.1.ov = true
    · unfold Im.nxt; rw [if_pos ho, if_pos ho]
    · rw [Bool.not_eq_true] at ho
      rw [nxt_live (s := (J.1, (Im.itr xs f m a).2 ++ J.2)) ho, nxt_live (s := J) ho]
      dsimp only
      by_cases h0 : (Im.stp xs f J.1).2.1 = 0
      · rw [if_pos h0, if_pos h0]
      · rw [if_neg h0, if_neg h0, List.append_assoc]
theorem itr_up (xs : List In) (f : Nat) (m : Mc) : ∀ k, (Im.itr xs f m k).1.dn ≤ m.dn + k
  | 0 => Nat.le_refl _
  | k + 1 => by
    have ih := itr_up xs f m k
    show (Im.nxt xs f (Im.itr xs f m k)).1.dn ≤ _
    by_cases ho : (Im.itr xs f m k).1.ov = true
    · unfold Im.nxt; rw [if_pos ho]; omega
    · rw [Bool.not_eq_true] at ho
      rw [nxt_live ho]
      show (Im.stp xs f _).1.dn ≤ _
      rw [stp_dn]; omega
theorem itr_moves (xs : List In) (f : Nat) (m : Mc) (ho : m.ov = false) (k : Nat) (hk : 0 < k) : m.dn < (Im.itr xs f m k).1.dn := by
  obtain ⟨j, rfl⟩ : ∃ j, k = 1 + j := ⟨k - 1, by omega⟩
  have h1 := itr_dn_le xs f m 1 j
  have h2 : (Im.itr xs f m 1).1.dn = m.dn + 1 := by
    show (Im.nxt xs f (m, [])).1.dn = _
    rw [nxt_live (s := (m, [])) ho]
    exact stp_dn m xs f
  omega
theorem itr_full {xs : List In} {f n : Nat} (hp : Pok f xs) (h : (Im.itr xs f Im.m0 n).1.ov = true) : Im.itr xs f Im.m0 n = Im.end_ xs f := by
  have h0 := m0_ok xs.length f hp.l1 hp.f1
  have ho := itr_ends h0 hp.good f (by show f ≤ 0 + f; omega)
  have e1 := itr_over h f
  have e2 := itr_over ho n
  rw [Nat.add_comm] at e2
  rw [← e1, e2]; rfl
end Go.Proofs.YtpgehocadohkiaaGreatDoor
end
