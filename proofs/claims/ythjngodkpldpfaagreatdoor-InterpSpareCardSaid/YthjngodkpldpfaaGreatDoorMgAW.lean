import Derived.Test.YthjngodkpldpfaaGreatDoorMgAV

section
namespace Go.Proofs.YthjngodkpldpfaaGreatDoor
open Go.RowKit Go.Shelf

/-- a slice of ints that is only read -/
structure Ns (w : World) (v : Value) (l : List Int) : Prop where
  form : ∃ p cap, v = .slice p l.length cap ∧ (0 < l.length → ∃ b off, p = some ⟨b, off, none⟩ ∧ b < w.heap.size ∧ ∀ j, j < l.length → w.cell? ⟨b, off + j, none⟩ = some (.int .i64 l[j]!))
  len : l.length ≤ 9223372036854775807
  hi : ∀ x ∈ l, x ≤ 9223372036854775807
theorem Ns.below {w w' : World} {v : Value} {l : List Int} (h : Ns w v l) (k : Below w.heap.size w w') : Ns w' v l := by
  obtain ⟨⟨p, cap, hv, h1⟩, h2, h3⟩ := h
  refine ⟨⟨p, cap, hv, fun h0 => ?_⟩, h2, h3⟩
  obtain ⟨b, off, hp, hb, hc⟩ := h1 h0
  exact ⟨b, off, hp, Nat.lt_of_lt_of_le hb k.size, fun j hj => (k.cell (p := ⟨b, off + j, none⟩) hb).trans (hc j hj)⟩
theorem nd_up : ∀ k u : Nat, u < 10 ^ (k + 1) → Lib.nDigits u ≤ k + 1
  | 0, u, h => by rw [Lib.nDigits_small (by simpa using h)]; exact Nat.le_refl _
  | k + 1, u, h => by
    by_cases h1 : u < 10
    · rw [Lib.nDigits_small h1]; omega
    · rw [Lib.nDigits_big h1]
      have := nd_up k (u / 10) (by rw [Nat.pow_succ] at h; omega)
      omega
theorem itoa_short (n : Int) (h1 : -2000 ≤ n) (h2 : n ≤ 2000) : (Lib.itoa n).length ≤ 5 := by
  unfold Lib.itoa
  split
  · have := nd_up 3 n.natAbs (by show n.natAbs < 10000; omega); rw [List.length_cons, Lib.decDigits_length]; omega
  · have := nd_up 3 n.toNat (by show n.toNat < 10000; omega); rw [Lib.decDigits_length]; omega
theorem amt_short (a : Nat) : (amtB a).size ≤ 22 := by
  unfold amtB
  split
  · decide
  split
  · decide
  split
  · decide
  · next h1 h2 h3 =>
    have hc : 3 ≤ clsN a := by omega
    have hM := tM_lt a
    have hz := ctz_lt (tM a) (tM_ne a hc) (by omega)
    have hE := tE_bd a
    have ho : oN a ≤ tM a := Nat.div_le_self _ _
    have l1 := nd_up 15 (oN a) (by show oN a < 10000000000000000; omega)
    rw [← Lib.decDigits_length] at l1
    have l2 := itoa_short (pN a) (by unfold pN; omega) (by unfold pN; omega)
    simp only [ByteArray.size_append]
    show (Lib.decDigits (oN a)).toArray.size + 1 + (Lib.itoa (pN a)).toArray.size ≤ 22
    simp
    omega
theorem text_short (a : Nat) : (textB a).size ≤ 32 := by
  unfold textB
  split
  · have := amt_short (Gn.canonW a); omega
  · have := amt_short (Gn.canonW a % 9223372036854775808)
    rw [ByteArray.size_append]
    show 1 + (amtB (Gn.canonW a % 9223372036854775808)).size ≤ 32
    omega
theorem doM_told (m : Mc) (x : In) (many : Nat) : (Im.doM m x many).1 = 0 →
    ((Im.doM m x many).2.2.1 = 0 ∧ (Im.doM m x many).2.1.ch = m.ch ∧ (Im.doM m x many).2.1.pc = m.pc) ∨
    ((Im.doM m x many).2.2.1 = 1 ∧ (Im.doM m x many).2.1.ch = m.ch + 1 ∧ (Im.doM m x many).2.1.pc = m.pc ∧ (Im.doM m x many).2.2.2.size ≤ 32) ∨
    ((Im.doM m x many).2.2.1 = 2 ∧ (Im.doM m x many).2.1.ch = m.ch ∧ (Im.doM m x many).2.1.pc = m.pc + 1 ∧ (Im.doM m x many).2.2.2.size ≤ 32) := by
  refine doM_ind (P := fun d => d.1 = 0 → (d.2.2.1 = 0 ∧ d.2.1.ch = m.ch ∧ d.2.1.pc = m.pc) ∨ (d.2.2.1 = 1 ∧ d.2.1.ch = m.ch + 1 ∧ d.2.1.pc = m.pc ∧ d.2.2.2.size ≤ 32) ∨ (d.2.2.1 = 2 ∧ d.2.1.ch = m.ch ∧ d.2.1.pc = m.pc + 1 ∧ d.2.2.2.size ≤ 32)) m x many ?_ ?_ ?_ ?_ ?_ ?_ ?_ ?_ ?_ ?_ ?_ ?_ ?_ ?_ ?_ ?_ ?_ ?_ ?_ ?_
  all_goals intro _ _
  all_goals first
    | exact .inl ⟨rfl, rfl, rfl⟩
    | exact .inr (.inl ⟨rfl, rfl, rfl, text_short _⟩)
    | exact .inr (.inr ⟨rfl, rfl, rfl, text_short _⟩)
theorem settle_ch (m : Mc) (many fuel : Nat) : (Im.settle m many fuel).ch = m.ch ∧ (Im.settle m many fuel).pc = m.pc := by
  unfold Im.settle; repeat' split
  all_goals exact ⟨rfl, rfl⟩
/-- what was told, and how much of it -/
structure Told (s : Mc × List (Nat × ByteArray)) : Prop where
  c : (Im.chk s.2).length = s.1.ch
  p : (Im.pcs s.2).length = s.1.pc
  t : ∀ a ∈ s.2, a.2.size ≤ 32
theorem told_nxt {xs : List In} {f : Nat} {s : Mc × List (Nat × ByteArray)} (h : Told s) : Told (Im.nxt xs f s) := by
  by_cases ho : s.1.ov = true
  · unfold Im.nxt; rw [if_pos ho]; exact h
  rw [Bool.not_eq_true] at ho
  rw [nxt_live ho]
  have hd := doM_told (Im.ready s.1) xs[s.1.pl]! xs.length
  have hst : Im.stp xs f s.1 = if (Im.doM (Im.ready s.1) xs[s.1.pl]! xs.length).1 = 0 then (Im.settle (Im.doM (Im.ready s.1) xs[s.1.pl]! xs.length).2.1 xs.length f, (Im.doM (Im.ready s.1) xs[s.1.pl]! xs.length).2.2) else (Im.trapped s.1 (Im.doM (Im.ready s.1) xs[s.1.pl]! xs.length).1, 0, ByteArray.empty) := rfl
  have e2 : (Im.ready s.1).ch = s.1.ch := rfl
  have e3 : (Im.ready s.1).pc = s.1.pc := rfl
  rw [e2, e3] at hd
  generalize Im.doM (Im.ready s.1) xs[s.1.pl]! xs.length = D at *
  by_cases h0 : D.1 = 0
  · rw [if_pos h0] at hst
    have hs := settle_ch D.2.1 xs.length f
    rw [hst]
    dsimp only
    rcases hd h0 with ⟨k1, k2, k3⟩ | ⟨k1, k2, k3, k4⟩ | ⟨k1, k2, k3, k4⟩
    · rw [if_pos k1]
      exact ⟨by show (Im.chk s.2).length = (Im.settle _ _ _).ch; rw [hs.1, k2]; exact h.c, by show (Im.pcs s.2).length = (Im.settle _ _ _).pc; rw [hs.2, k3]; exact h.p, h.t⟩
    · rw [if_neg (by omega)]
      refine ⟨?_, ?_, ?_⟩
      · show (Im.chk (s.2 ++ [D.2.2])).length = (Im.settle _ _ _).ch
        rw [hs.1, k2, chk_app, if_pos k1, List.length_append, h.c]; rfl
      · show (Im.pcs (s.2 ++ [D.2.2])).length = (Im.settle _ _ _).pc
        rw [hs.2, k3, pcs_app, if_pos k1, h.p]
      · intro a ha
        rcases List.mem_append.1 ha with q | q
        · exact h.t a q
        · rw [List.mem_singleton.1 q]; exact k4
    · rw [if_neg (by omega)]
      refine ⟨?_, ?_, ?_⟩
      · show (Im.chk (s.2 ++ [D.2.2])).length = (Im.settle _ _ _).ch
        rw [hs.1, k2, chk_app, if_neg (by omega), h.c]
      · show (Im.pcs (s.2 ++ [D.2.2])).length = (Im.settle _ _ _).pc
        rw [hs.2, k3, pcs_app, if_neg (by omega), List.length_append, h.p]; rfl
      · intro a ha
        rcases List.mem_append.1 ha with q | q
        · exact h.t a q
        · rw [List.mem_singleton.1 q]; exact k4
  · rw [if_neg h0] at hst
    rw [hst]
    dsimp only
    rw [if_pos rfl]
    exact ⟨h.c, h.p, h.t⟩
theorem told_itr (xs : List In) (f : Nat) : ∀ k, Told (Im.itr xs f Im.m0 k)
  | 0 => ⟨rfl, rfl, fun a h => by cases h⟩
  | k + 1 => told_nxt (told_itr xs f k)
theorem itr_add (xs : List In) (f : Nat) (m : Mc) (a : Nat) : ∀ b, Im.itr xs f m (a + b) = ((Im.itr xs f (Im.itr xs f m a).1 b).1, (Im.itr xs f m a).2 ++ (Im.itr xs f (Im.itr xs f m a).1 b).2)
  | 0 => by show Im.itr xs f m a = ((Im.itr xs f m a).1, (Im.itr xs f m a).2 ++ []); rw [List.append_nil]
  | b + 1 => by
    show Im.nxt xs f (Im.itr xs f m (a + b)) = ((Im.nxt xs f (Im.itr xs f (Im.itr xs f m a).1 b)).1, (Im.itr xs f m a).2 ++ (Im.nxt xs f (Im.itr xs f (Im.itr xs f m a).1 b)).2)
    rw [itr_add xs f m a b]
    generalize Im.itr xs f (Im.itr xs f m a).1 b = J
    by_cases ho : J.1.ov = true
    · unfold Im.nxt; rw [if_pos ho, if_pos ho]
    · rw [Bool.not_eq_true] at ho
      rw [nxt_live (s := (J.1, (Im.itr xs f m a).2 ++ J.2)) ho, nxt_live (s := J) ho]
      dsimp only
      by_cases h0 : (Im.stp xs f J.1).2.1 = 0
      · rw [if_pos h0, if_pos h0]
      · rw [if_neg h0, if_neg h0, List.append_assoc]
theorem itr_up (xs : List In) (f : Nat) (m : Mc) : ∀ k, (Im.itr xs f m k).1.dn ≤ m.dn + k
  | 0 => Nat.le_refl _
  | k + 1 => by
    have ih := itr_up xs f m k
    show (Im.nxt xs f (Im.itr xs f m k)).1.dn ≤ _
    by_cases ho : (Im.itr xs f m k).1.ov = true
    · unfold Im.nxt; rw [if_pos ho]; omega
    · rw [Bool.not_eq_true] at ho
      rw [nxt_live ho]
      show (Im.stp xs f _).1.dn ≤ _
      rw [stp_dn]; omega
theorem itr_moves (xs : List In) (f : Nat) (m : Mc) (ho : m.ov = false) (k : Nat) (hk : 0 < k) : m.dn < (Im.itr xs f m k).1.dn := by
  obtain ⟨j, rfl⟩ : ∃ j, k = 1 + j := ⟨k - 1, by omega⟩
  have h1 := itr_dn_le xs f m 1 j
  have h2 : (Im.itr xs f m 1).1.dn = m.dn + 1 := by
    show (Im.nxt xs f (m, [])).1.dn = _
    rw [nxt_live (s := (m, [])) ho]
    exact stp_dn m xs f
  omega
theorem itr_full {xs : List In} {f n : Nat} (hp : Pok f xs) (h : (Im.itr xs f Im.m0 n).1.ov = true) : Im.itr xs f Im.m0 n = Im.end_ xs f := by
  have h0 := m0_ok xs.length f hp.l1 hp.f1
  have ho := itr_ends h0 hp.good f (by show f ≤ 0 + f; omega)
  have e1 := itr_over h f
  have e2 := itr_over ho n
  rw [Nat.add_comm] at e2
  rw [← e1, e2]; rfl
end Go.Proofs.YthjngodkpldpfaaGreatDoor
end

section
namespace Go.Proofs.YthjngodkpldpfaaGreatDoor
open Go.RowKit Go.Shelf

theorem stp_alike {xs ys : List In} (hl : xs.length = ys.length) {m : Mc} (h : xs[m.pl]! = ys[m.pl]!) (f : Nat) : Im.stp xs f m = Im.stp ys f m := by unfold Im.stp; rw [hl, h]
/-- two codes alike at every place that is done -/
theorem itr_alike {xs ys : List In} (hl : xs.length = ys.length) (f : Nat) (m : Mc) : ∀ k, (∀ j, j < k → xs[(Im.itr xs f m j).1.pl]! = ys[(Im.itr xs f m j).1.pl]!) → Im.itr xs f m k = Im.itr ys f m k
  | 0, _ => rfl
  | k + 1, h => by
    have ih := itr_alike hl f m k (fun j hj => h j (by omega))
    show Im.nxt xs f (Im.itr xs f m k) = Im.nxt ys f (Im.itr ys f m k)
    rw [← ih]
    by_cases ho : (Im.itr xs f m k).1.ov = true
    · unfold Im.nxt; rw [if_pos ho, if_pos ho]
    · rw [Bool.not_eq_true] at ho
      rw [nxt_live ho, nxt_live ho, stp_alike hl (h k (by omega))]
namespace Im
/-- which places were done -/
def dons (xs : List In) (f : Nat) : Nat → List Bool
  | 0 => List.replicate 64 false
  | i + 1 => (dons xs f i).set (itr xs f m0 i).1.pl true
/-- the other code -/
def mixd (xs ms : List In) (D : List Bool) (j : Nat) : In := if D[j]! = false ∧ j < ms.length then ms[j]! else xs[j]!
def mixs (xs ms : List In) (D : List Bool) : List In := (List.range xs.length).map (mixd xs ms D)
end Im
theorem dons_len (xs : List In) (f : Nat) : ∀ i, (Im.dons xs f i).length = 64
  | 0 => by unfold Im.dons; exact List.length_replicate
  | i + 1 => by unfold Im.dons; rw [List.length_set]; exact dons_len xs f i
theorem dons_at (xs : List In) (f : Nat) {j : Nat} : ∀ i, j < i → (Im.itr xs f Im.m0 j).1.pl < 64 → (Im.dons xs f i)[(Im.itr xs f Im.m0 j).1.pl]! = true
  | 0, h, _ => by omega
  | i + 1, h, hp => by
    have hl := dons_len xs f i
    unfold Im.dons
    rw [getElem!_pos _ _ (by rw [List.length_set]; omega), List.getElem_set]
    split
    · rfl
    · rename_i hne
      by_cases e : j = i
      · exact absurd (by rw [e]) hne
      · have ih := dons_at xs f i (by omega) hp
        rw [getElem!_pos _ _ (by omega)] at ih
        exact ih
theorem mixs_len (xs ms : List In) (D : List Bool) : (Im.mixs xs ms D).length = xs.length := by unfold Im.mixs; simp
theorem mixs_get (xs ms : List In) (D : List Bool) (j : Nat) (h : j < xs.length) : (Im.mixs xs ms D)[j]! = Im.mixd xs ms D j := by
  unfold Im.mixs
  rw [getElem!_pos _ j (by simpa using h)]; simp
theorem mixs_fits {xs ms : List In} {D : List Bool} (hx : ∀ x ∈ xs, x.Fits) (hm : ∀ x ∈ ms, x.Fits) : ∀ x ∈ Im.mixs xs ms D, x.Fits := by
  intro x h
  unfold Im.mixs at h
  obtain ⟨j, hj, rfl⟩ := List.mem_map.1 h
  have hj := List.mem_range.1 hj
  unfold Im.mixd
  split
  · rename_i k; rw [getElem!_pos ms j k.2]; exact hm _ (List.getElem_mem k.2)
  · rw [getElem!_pos xs j hj]; exact hx _ (List.getElem_mem hj)
/-- what stands behind is no matter -/
theorem spare_end {xs ms : List In} {f n : Nat} (hp : Pok f xs) (hn : n = f ∨ (n ≤ f ∧ (Im.itr xs f Im.m0 n).1.ov = true)) : Im.end_ (Im.mixs xs ms (Im.dons xs f n)) f = Im.end_ xs f := by
  have h0 := m0_ok xs.length f hp.l1 hp.f1
  have hlen := mixs_len xs ms (Im.dons xs f n)
  have key : ∀ j, j < n → xs[(Im.itr xs f Im.m0 j).1.pl]! = (Im.mixs xs ms (Im.dons xs f n))[(Im.itr xs f Im.m0 j).1.pl]! := by
    intro j hj
    by_cases hp1 : (Im.itr xs f Im.m0 j).1.pl < xs.length
    · rw [mixs_get _ _ _ _ hp1]
      unfold Im.mixd
      have := dons_at xs f n hj (by have := hp.l2; omega)
      rw [if_neg (by rw [this]; exact fun k => by cases k.1)]
    · rw [getElem!_neg xs _ hp1, getElem!_neg (Im.mixs xs ms (Im.dons xs f n)) _ (by rw [hlen]; exact hp1)]
  have e := itr_alike hlen.symm f Im.m0 n key
  rcases hn with rfl | ⟨hle, ho⟩
  · exact e.symm
  · have e1 := itr_over ho (f - n)
    have e2 := itr_over (xs := Im.mixs xs ms (Im.dons xs f n)) (fuel := f) (m := Im.m0) (k := n) (by rw [← e]; exact ho) (f - n)
    rw [Nat.add_sub_cancel' hle] at e1 e2
    show Im.itr (Im.mixs xs ms (Im.dons xs f n)) f Im.m0 f = Im.itr xs f Im.m0 f
    rw [e1, e2, e]
end Go.Proofs.YthjngodkpldpfaaGreatDoor
end

section
namespace Go.Proofs.YthjngodkpldpfaaGreatDoor
open Go.RowKit Go.Shelf

namespace Im
def xsE : List In := [⟨1, 0, 0, 0, 0, 4609434218613702656⟩, ⟨21, 0, 0, 0, 0, 0⟩, ⟨14, 0, 0, 0, 3, 0⟩]
def t31 : ByteArray := ⟨#[51, 112, 45, 49]⟩
end Im
theorem t31_is : (Im.t31.toList == [51, 112, 45, 49]) = true := by kernel_rfl
theorem xsE_check : Pg.checkE 9 Im.xsE = (0, 0) := by decide
theorem xsE_fits : ∀ x ∈ Im.xsE, x.Fits := by
  intro x hx
  simp only [Im.xsE, List.mem_cons, List.not_mem_nil, or_false] at hx
  rcases hx with rfl | rfl | rfl <;> exact ⟨by decide, by decide, by decide, by decide, by decide, by decide⟩
theorem xsE_pok : Pok 9 Im.xsE := by
  obtain ⟨n, hn, hp⟩ := pok_of (fuel := 9) xsE_fits (by rw [xsE_check])
  obtain rfl : n = 9 := by omega
  exact hp
theorem textE : textB 4609434218613702656 = Im.t31 := by
  have h1 : oN 4609434218613702656 = 3 := by decide
  have h2 : pN 4609434218613702656 = -1 := by decide
  have h3 : clsN 4609434218613702656 = 4 := by decide
  unfold textB
  rw [show Gn.canonW 4609434218613702656 = 4609434218613702656 by decide, if_pos (by decide)]
  unfold amtB
  rw [h3, if_neg (by decide), if_neg (by decide), if_neg (by decide), h1, h2]
  rw [Lib.decDigits_one (by decide), show Lib.itoa (-1) = [45, 49] from by unfold Lib.itoa; rw [if_pos (by decide)]; show 45 :: Lib.decDigits 1 = _; rw [Lib.decDigits_one (by decide)]; rfl]
  rfl
theorem endE : Im.end_ Im.xsE 9 = (⟨3, [4609434218613702656, 0, 0, 0, 0, 0, 0, 0], [0, 0, 0, 0, 0, 0, 0, 0], 0, [0, 0, 0, 0, 0, 0, 0, 0], 0, 3, 1, 0, true, 0⟩, [(1, textB 4609434218613702656)]) := by kernel_rfl
theorem itrE : Im.itr Im.xsE 9 Im.m0 2 = (⟨2, [4609434218613702656, 0, 0, 0, 0, 0, 0, 0], [0, 0, 0, 0, 0, 0, 0, 0], 0, [0, 0, 0, 0, 0, 0, 0, 0], 0, 2, 1, 0, false, 0⟩, [(1, textB 4609434218613702656)]) := by kernel_rfl
theorem stpE : Im.stp Im.xsE 9 ⟨2, [4609434218613702656, 0, 0, 0, 0, 0, 0, 0], [0, 0, 0, 0, 0, 0, 0, 0], 0, [0, 0, 0, 0, 0, 0, 0, 0], 0, 2, 1, 0, false, 0⟩ = (⟨3, [4609434218613702656, 0, 0, 0, 0, 0, 0, 0], [0, 0, 0, 0, 0, 0, 0, 0], 0, [0, 0, 0, 0, 0, 0, 0, 0], 0, 3, 1, 0, true, 0⟩, 0, ByteArray.empty) := by kernel_rfl
theorem cell_of_block {w : World} {Y T i : Nat} {cs : Array Value} {u : Value} (h : w.heap[Y]? = some (.cells cs T (0, 0))) (hi : cs[i]? = some u) : w.cell? ⟨Y, i, none⟩ = some u := by simp [World.cell?, h, hi]
set_option maxHeartbeats 1000000 in
theorem example_any (w : World) : Calls Tryz.prog 33 #[] w fun e w' => ∃ v, e = .returned (.agg #[.int .i64 9, v]) ∧ Cd w' v Im.xsE ∧ Below w.heap.size w w' := by
  go_enter Tryz.func33, Tryz.ntmps33
  go_wp2_with fail
  have b0 := (heap_alloc_old (w.alloc (.cells #[.int .i64 9, .slice (some ⟨w.heap.size + 1, 0, none⟩) 3 3] 24)) (.cells (flatI Im.xsE).toArray 66) (by simp : w.heap.size < _)).trans (heap_alloc_new w _)
  have b1 : ((w.alloc (.cells #[.int .i64 9, .slice (some ⟨w.heap.size + 1, 0, none⟩) 3 3] 24)).alloc (.cells (flatI Im.xsE).toArray 66)).heap[w.heap.size + 1]? = some (.cells (flatI Im.xsE).toArray 66 (0, 0)) := by have q := heap_alloc_new (w.alloc (.cells #[.int .i64 9, .slice (some ⟨w.heap.size + 1, 0, none⟩) 3 3] 24)) (.cells (flatI Im.xsE).toArray 66); rw [World.size_alloc] at q; exact q
  refine bodyPost_ret (results_cell_row (p := 0) (ty := 24) rfl _ _ w.heap.size 24 _ (0, 0) _ rfl b0 Tryz.underlying24 rfl (by kernel_rfl)) rfl ⟨_, rfl, ⟨some ⟨w.heap.size + 1, 0, none⟩, 3, rfl, fun _ => ⟨w.heap.size + 1, 0, rfl, lt_of_block b1, fun j hj i u hi => ?_⟩⟩, (below_one w _).trans ((below_one _ _).mono (by simp))⟩
  have hi6 : i < 6 := by
    rcases Nat.lt_or_ge i 6 with h' | h'
    · exact h'
    · rw [List.getElem?_eq_none (by simpa [In.cs] using h')] at hi; cases hi
  have := flatI_of hj hi6 hi
  rw [Nat.zero_add]
  exact cell_of_block b1 (by rw [List.getElem?_toArray]; exact this)
theorem wholeE (w : World) (v : Value) (h : Cd w v Im.xsE) (hT : Tbs w) : Calls Tryz.prog 17 #[.agg #[.int .i64 9, v]] w fun e w' => ∃ g cap ad cap2, e = .returned (.tuple #[.agg #[.int .i64 0, .int .u64 4609434218613702656, .slice (some ⟨g, 0, none⟩) 1 cap, .slice ad 0 cap2, .int .i64 3], .int .i64 0]) ∧ w'.cell? ⟨g, 0, none⟩ = some (.string Im.t31) ∧ Below w.heap.size w w' := by
  refine (whole_ok xsE_fits h xsE_check xsE_pok hT).mono ?_
  rintro e w' ⟨o, rfl, ⟨cv, pv, rfl, hcv, hpv⟩, hb⟩
  rw [endE] at hcv hpv ⊢
  rw [textE] at hcv hpv
  obtain ⟨g, cap, rfl⟩ := own_some (n := 1) hcv (by decide)
  obtain ⟨ad, cap2, rfl⟩ := rown_slice (n := 0) hpv
  exact ⟨g, cap, ad, cap2, rfl, hcv.cells (g := g) rfl 0 (.string Im.t31) rfl, hb⟩
theorem runE {w : World} {B : Nat} {v : Value} (h : Mb w B Im.m0 v 9) (hC : Cdn w v Im.xsE B) (hE : Env w B) : Calls Tryz.prog 22 #[.pointer (some ⟨B, 0, none⟩), .int .i64 2] w fun e w' => ∃ g cap, e = .returned (.slice (some ⟨g, 0, none⟩) 1 cap) ∧ Mb w' B ⟨2, [4609434218613702656, 0, 0, 0, 0, 0, 0, 0], [0, 0, 0, 0, 0, 0, 0, 0], 0, [0, 0, 0, 0, 0, 0, 0, 0], 0, 2, 1, 0, false, 0⟩ v 9 ∧ w'.cell? ⟨g, 0, none⟩ = some (.int .i64 1) ∧ w'.cell? ⟨g, 1, none⟩ = some (.string Im.t31) ∧ w.heap.size ≤ g ∧ g < w'.heap.size ∧ w.grownBy w' (some B) := by
  refine (run_any (xs := Im.xsE) h (m0_ok 3 9 (by decide) (by decide)) xsE_pok.good hC hE (by decide) (by decide) 2 (by decide)).mono ?_
  rintro e w' ⟨u, rfl, hm, ho, hg⟩
  rw [show Int.toNat 2 = 2 from rfl, itrE] at hm ho
  rw [textE] at ho
  obtain ⟨g, cap, rfl⟩ := own_some (n := 1) ho (by decide)
  exact ⟨g, cap, rfl, hm, ho.cells (g := g) rfl 0 _ rfl, ho.cells (g := g) rfl 1 (.string Im.t31) rfl, (ho.lt g rfl).1, (ho.lt g rfl).2, hg⟩
theorem stepE {w : World} {B : Nat} {v : Value} (h : Mb w B ⟨2, [4609434218613702656, 0, 0, 0, 0, 0, 0, 0], [0, 0, 0, 0, 0, 0, 0, 0], 0, [0, 0, 0, 0, 0, 0, 0, 0], 0, 2, 1, 0, false, 0⟩ v 9) (hC : Cdn w v Im.xsE B) (hE : Env w B) :
    Calls Tryz.prog 29 #[.pointer (some ⟨B, 0, none⟩)] w fun e w' => e = .returned (.tuple #[.agg #[.int .i64 0, .string ⟨#[]⟩], .int .i64 0]) ∧ Mb w' B ⟨3, [4609434218613702656, 0, 0, 0, 0, 0, 0, 0], [0, 0, 0, 0, 0, 0, 0, 0], 0, [0, 0, 0, 0, 0, 0, 0, 0], 0, 3, 1, 0, true, 0⟩ v 9 ∧ w.grownBy w' (some B) := by
  have hk := itr_ok (xs := Im.xsE) (m0_ok 3 9 (by decide) (by decide)) xsE_pok.good (fuel := 9) 2
  rw [itrE] at hk
  refine (step_live (xs := Im.xsE) h rfl hk xsE_pok.good hC hE (by decide) (by decide)).mono ?_
  rintro e w' ⟨rfl, hm, hg⟩
  rw [stpE] at hm ⊢
  exact ⟨rfl, hm, hg⟩
abbrev mE : Mc := ⟨3, [4609434218613702656, 0, 0, 0, 0, 0, 0, 0], [0, 0, 0, 0, 0, 0, 0, 0], 0, [0, 0, 0, 0, 0, 0, 0, 0], 0, 3, 1, 0, true, 0⟩
theorem overE {w : World} {B : Nat} {v : Value} (h : Mb w B mE v 9) : Calls Tryz.prog 20 #[.pointer (some ⟨B, 0, none⟩)] w fun e w' => e = .returned (.bool true) ∧ w' = w := over_any h
theorem doneE {w : World} {B : Nat} {v : Value} (h : Mb w B mE v 9) : Calls Tryz.prog 21 #[.pointer (some ⟨B, 0, none⟩)] w fun e w' => e = .returned (.int .i64 3) ∧ w' = w := done_any h
theorem placeE {w : World} {B : Nat} {v : Value} (h : Mb w B mE v 9) : Calls Tryz.prog 28 #[.pointer (some ⟨B, 0, none⟩)] w fun e w' => e = .returned (.int .i64 3) ∧ w' = w := place_any h
theorem regE {w : World} {B : Nat} {v : Value} (h : Mb w B mE v 9) : Calls Tryz.prog 24 #[.pointer (some ⟨B, 0, none⟩), .int .i64 0] w fun e w' => e = .returned (.int .u64 4609434218613702656) ∧ w' = w := reg_any h 0 (by decide)
theorem resultE {w : World} {B : Nat} {v : Value} (h : Mb w B mE v 9) : Calls Tryz.prog 25 #[.pointer (some ⟨B, 0, none⟩)] w fun e w' => e = .returned (.agg #[.int .i64 0, .int .u64 4609434218613702656]) ∧ Below w.heap.size w w' := result_any h
end Go.Proofs.YthjngodkpldpfaaGreatDoor
end

section
namespace Go.Proofs.YthjngodkpldpfaaGreatDoor
open Go.RowKit Go.Shelf

set_option maxRecDepth 20000 in
set_option maxHeartbeats 8000000 in
theorem iawake_true (w : World) (hT : Tbs w) : Calls Tryz.prog 11 #[] w fun e w' => e = .returned (.bool true) ∧ Below w.heap.size w w' := by
  have HX := hide example_any
  have HT := hide hT
  clear hT
  go_enter Tryz.func11, Tryz.ntmps11
  go_wp2_with fail
  refine (HX.out _).mono ?_
  rintro e w1 ⟨v1, rfl, hc1, hb1⟩
  go_wp2_with fail
  refine (wholeE w1 v1 hc1 (HT.out.below hb1)).mono ?_
  rintro e w2 ⟨gc, capc, adp, capp, rfl, kc, hb2⟩
  have HB2 : Hid (Below w.heap.size w w2) := hb1.trans (hb2.mono hb1.size)
  have hgc := World.block_lt_of_cell? _ _ kc
  clear hb1 hb2 hc1
  go_wp2_with fail
  refine (HX.out _).mono ?_
  rintro e w3 ⟨v3, rfl, hc3, hb3⟩
  go_wp2_with fail
  refine (new_ok xsE_fits hc3 xsE_check (by decide) (by decide)).mono ?_
  rintro e w4 ⟨B, v4, rfl, hmb, hcd, hB, hb4⟩
  have hw3 := hb3.size
  rw [World.size_alloc] at hw3
  have HO4 : Hid (w4.heap[w2.heap.size]? = some (.cells #[.int .i64 0, .int .u64 4609434218613702656, .slice (some ⟨gc, 0, none⟩) 1 capc, .slice adp 0 capp, .int .i64 3] 48 (0, 0))) := (hb4.block w2.heap.size (by omega)).trans ((hb3.block w2.heap.size (by simp)).trans (heap_alloc_new w2 _))
  have kc4 : w4.cell? ⟨gc, 0, none⟩ = some (.string Im.t31) := (hb4.cell (p := ⟨gc, 0, none⟩) (show gc < w3.heap.size by have : gc < w2.heap.size := hgc; omega)).trans ((hb3.cell (p := ⟨gc, 0, none⟩) (show gc < _ by simp; have : gc < w2.heap.size := hgc; omega)).trans (Lib.cell?_alloc_some _ kc))
  have HB4 : Hid (Below w.heap.size w w4) := HB2.out.trans (((below_one w2 (.cells #[.int .i64 0, .int .u64 4609434218613702656, .slice (some ⟨gc, 0, none⟩) 1 capc, .slice adp 0 capp, .int .i64 3] 48)).trans ((hb3.mono (by simp)).trans (hb4.mono (by omega)))).mono HB2.out.size)
  have HE4 := hide (HT.out.env HB4.out (show w.heap.size ≤ B by have := HB2.out.size; omega))
  have hBO : w2.heap.size < B := by omega
  have HM4 := hide hmb
  have HC4 := hide hcd
  obtain ⟨o0, o1, o2, o3, o4, oz⟩ := five_of HO4.out
  clear hb3 hb4 hmb hcd hc3 kc
  have h31 := t31_is
  have hB4 := HM4.out.lt
  go_wp2_with fail
  refine (runE HM4.out HC4.out HE4.out).mono ?_
  rintro e w5 ⟨gl, capl, rfl, hm5, l0, l1, hgl, hgl5, hg5⟩
  have HO5 := hide ((hg5.block _ (lt_of_block HO4.out) (by simp; omega)).trans HO4.out)
  have HC5 := hide (HC4.out.grown hg5)
  have HE5 := hide (HE4.out.grown hg5)
  have HM5 := hide hm5
  have HG5 := hide hg5
  clear o0 o1 o2 o3 o4 oz hm5 hg5 kc4
  go_wp2_with fail
  refine (stepE HM5.out HC5.out HE5.out).mono ?_
  rintro e w6 ⟨rfl, hm6, hg6⟩
  have HO6 := hide ((hg6.block _ (lt_of_block HO5.out) (by simp; omega)).trans HO5.out)
  have l06 := hg6.cell l0 (by simp; omega)
  have l16 := hg6.cell l1 (by simp; omega)
  have HM6 := hide hm6
  have HG6 := hide (grown_trans HG5.out hg6)
  have hs6 := HG6.out.size
  clear l0 l1 hm6 hg6
  go_wp2_with fail
  refine (step_over (HM6.out.grown (grown_one w6 _ none) (by simp)) rfl).mono ?_
  rintro e w7 ⟨rfl, hb7⟩
  have hb76 : Below w6.heap.size w6 w7 := (below_one w6 _).trans (hb7.mono (by simp))
  have HM7 := hide (HM6.out.below hb76 HM6.out.lt)
  have HO7 := hide ((hb76.block _ (lt_of_block HO6.out)).trans HO6.out)
  have l0 := (hb76.cell (p := ⟨gl, 0, none⟩) (World.block_lt_of_cell? _ _ l06)).trans l06
  have l1 := (hb76.cell (p := ⟨gl, 1, none⟩) (World.block_lt_of_cell? _ _ l16)).trans l16
  have ha7 := (hb7.block w6.heap.size (by simp)).trans (heap_alloc_new w6 _)
  have a0 : w7.cell? ⟨w6.heap.size, 0, none⟩ = some (.int .i64 0) := cell_of_block ha7 rfl
  have HB7 : Hid (Below w.heap.size w w7) := HB4.out.trans (below_of_grown HG6.out (grown_below hb76 (some B)) (by have := HB2.out.size; omega) (by have := HB2.out.size; omega) HB4.out.size)
  clear hb7 hb76 l06 l16 ha7
  obtain ⟨o0, o1, -, -, -, -⟩ := five_of HO7.out
  go_wp2_with fail
  have HM8 := hide (HM7.out.grown (grown_one w7 (.cells #[.int .i64 0, .string ⟨#[]⟩] 58) none) (by simp))
  have HB8 := hide (HB7.out.trans ((below_one w7 (.cells #[.int .i64 0, .string ⟨#[]⟩] 58)).mono HB7.out.size))
  replace l0 := Lib.cell?_alloc_some (.cells #[.int .i64 0, .string ⟨#[]⟩] 58) l0
  replace l1 := Lib.cell?_alloc_some (.cells #[.int .i64 0, .string ⟨#[]⟩] 58) l1
  replace a0 := Lib.cell?_alloc_some (.cells #[.int .i64 0, .string ⟨#[]⟩] 58) a0
  replace o0 := Lib.cell?_alloc_some (.cells #[.int .i64 0, .string ⟨#[]⟩] 58) o0
  replace o1 := Lib.cell?_alloc_some (.cells #[.int .i64 0, .string ⟨#[]⟩] 58) o1
  generalize w7.alloc (.cells #[.int .i64 0, .string ⟨#[]⟩] 58) = w7b at *
  have HMd := hide HM8.out.drew
  have HOv := hide (overE HMd.out)
  have HDo := hide (doneE HMd.out)
  have HPl := hide (placeE HMd.out)
  have HRg := hide (regE HMd.out)
  have HRe := hide (resultE HMd.out)
  simp only [List.append_eq, List.cons_append, List.nil_append]
  clear HX HT HO4 HO5 HO6 HO7 HC4 HC5 HE4 HE5 HM4 HM5 HM6 HM7 HG5 HG6 HB2 HB4 HB7
  go_region_held3 (fun w' => w'.cell? ⟨gl, 0, none⟩ = some (.int .i64 1) ∧ w'.cell? ⟨gl, 1, none⟩ = some (.string Im.t31) ∧ w'.cell? ⟨w6.heap.size, 0, none⟩ = some (.int .i64 0) ∧ w'.cell? ⟨w2.heap.size, 0, none⟩ = some (.int .i64 0) ∧ w'.cell? ⟨w2.heap.size, 1, none⟩ = some (.int .u64 4609434218613702656)) (first | exact ⟨l0, l1, a0, o0, o1⟩ | exact ⟨m0, m1, m2, m3, m4⟩) (first
    | (go_at_call 20; refine HOv.out.mono ?_; rintro e _ ⟨rfl, rfl⟩)
    | (go_at_call 21; refine HDo.out.mono ?_; rintro e _ ⟨rfl, rfl⟩)
    | (go_at_call 28; refine HPl.out.mono ?_; rintro e _ ⟨rfl, rfl⟩)
    | (go_at_call 24; refine HRg.out.mono ?_; rintro e _ ⟨rfl, rfl⟩)
    | (go_at_call 25; refine HRe.out.mono ?_; rintro e w8 ⟨rfl, hb8'⟩; have hb8 := below_undrew hb8'; have m0 := (hb8.cell (p := ⟨gl, 0, none⟩) (World.block_lt_of_cell? _ _ l0)).trans l0; have m1 := (hb8.cell (p := ⟨gl, 1, none⟩) (World.block_lt_of_cell? _ _ l1)).trans l1; have m2 := (hb8.cell (p := ⟨w6.heap.size, 0, none⟩) (World.block_lt_of_cell? _ _ a0)).trans a0; have m3 := (hb8.cell (p := ⟨w2.heap.size, 0, none⟩) (World.block_lt_of_cell? _ _ o0)).trans o0; have m4 := (hb8.cell (p := ⟨w2.heap.size, 1, none⟩) (World.block_lt_of_cell? _ _ o1)).trans o1))
  go_wp2_with fail
  go_ret
  exact ⟨rfl, HB8.out.trans (hb8.mono HB8.out.size)⟩
end Go.Proofs.YthjngodkpldpfaaGreatDoor
end

section
namespace Go.Proofs.YthjngodkpldpfaaGreatDoor
open Go.RowKit Go.Shelf

/-- what Whole tells of a program that may be -/
theorem whole_s {w : World} {v : Value} {fuel : Nat} {xs : List In} (hx : ∀ x ∈ xs, x.Fits) (h : Cd w v xs) (hc : Pg.checkE fuel xs = (0, 0)) (hp : Pok fuel xs) (hT : Tbs w) :
    Calls Tryz.prog 17 #[.agg #[.int .i64 (fuel : Int), v]] w fun e w' => ∃ o, e = .returned (.tuple #[o, .int .i64 0]) ∧ OutS w' o (Im.end_ xs fuel).1.en (Im.resB (Im.end_ xs fuel).1) (Im.end_ xs fuel).1.dn (Im.chk (Im.end_ xs fuel).2) (Im.pcs (Im.end_ xs fuel).2) ∧ Below w.heap.size w w' :=
  (whole_ok hx h hc hp hT).mono fun _ _ ⟨o, h1, h2, h3⟩ => ⟨o, h1, by have := out_s h2; rw [resC_en] at this; exact this, h3⟩
theorem check_zz {f : Nat} {xs : List In} (hp : Pok f xs) (hE : (Pg.checkE (f : Int) xs).1 = 0) : Pg.checkE (f : Int) xs = (0, 0) := by
  have h1 := hp.f1; have h2 := hp.f2; have h3 := hp.l1; have h4 := hp.l2
  unfold Pg.checkE at hE ⊢
  rw [if_neg (by omega), if_neg (by omega)] at hE ⊢
  exact goE_ok _ _ _ hE
theorem Pok.more {f d : Nat} {xs : List In} (hp : Pok f xs) (hd : f + d ≤ 1024) : Pok (f + d) xs := ⟨by have := hp.f1; omega, hd, hp.l1, hp.l2, hp.good⟩
theorem end_len (xs : List In) (fuel : Nat) : (Im.end_ xs fuel).2.length ≤ fuel := itr_len _ _ _ _
set_option maxRecDepth 20000 in
set_option maxHeartbeats 4000000 in
theorem interpFuel_walk (fuel : Int) (xs : List In) (hx : ∀ x ∈ xs, x.Fits) (v : Value) (more : Int) (hm1 : -9223372036854775808 ≤ more) (hm2 : more ≤ 9223372036854775807) (w : World) (h : Cd w v xs) (hT : Tbs w) :
    Calls Tryz.prog 6 #[.agg #[.int .i64 fuel, v], .int .i64 more] w fun e w' => e = .returned (.bool true) ∧ Below w.heap.size w w' := by
  have HCd := hide h
  have HT := hide hT
  have HX := hide hx
  by_cases hE : (Pg.checkE fuel xs).1 = 0
  · obtain ⟨f, rfl, hp⟩ := pok_of hx hE
    have hc := check_zz hp hE
    have HP := hide hp
    have HC := hide hc
    have hf1 := hp.f1
    have hf2 := hp.f2
    obtain ⟨p, cap, rfl, -⟩ := h
    clear hE hp hc hx hT
    go_enter Tryz.func6, Tryz.ntmps6
    go_wp2_with fail
    refine (whole_s HX.out (HCd.out.below (below_one w _) (Nat.le_refl _)) HC.out HP.out (HT.out.below (below_one w _))).mono ?_
    rintro e w1 ⟨o, rfl, ho, hb1⟩
    have HO := hide ho
    obtain ⟨cv, pv, rfl, s1, s2⟩ := ho
    have HS1 := hide s1
    have HS2 := hide s2
    obtain ⟨pc1, cc1, rfl, -, -⟩ := s1
    obtain ⟨pp1, cp1, rfl, -, -⟩ := s2
    have HB1 : Hid (Below w.heap.size w w1) := (below_one w _).trans (hb1.mono (by simp))
    have hpw : w1.heap[w.heap.size]? = some (.cells #[.int .i64 (f : Int), .slice p xs.length cap] 24 (0, 0)) := (hb1.block w.heap.size (by simp)).trans (heap_alloc_new w _)
    have HPW := hide hpw
    clear hb1 hpw
    go_wp2_with fail
    refine (iawake_true _ ((HT.out.below HB1.out).below (below_one w1 _))).mono ?_
    rintro e w2 ⟨rfl, hb2⟩
    have hO2 : w2.heap[w1.heap.size]? = some (.cells #[.int .i64 ((Im.end_ xs f).1.en : Int), .int .u64 (Im.resB (Im.end_ xs f).1 : Int), .slice pc1 (Im.chk (Im.end_ xs f).2).length cc1, .slice pp1 (Im.pcs (Im.end_ xs f).2).length cp1, .int .i64 ((Im.end_ xs f).1.dn : Int)] 48 (0, 0)) := (hb2.block w1.heap.size (by simp)).trans (heap_alloc_new w1 _)
    have hb21 : Below w1.heap.size w1 w2 := (below_one w1 _).trans (hb2.mono (by simp))
    have hP2 := (hb21.block _ (lt_of_block HPW.out)).trans HPW.out
    have p0 : w2.cell? ⟨w.heap.size, 0, none⟩ = some (.int .i64 (f : Int)) := cell_of_block hP2 rfl
    have p1 : w2.cell? ⟨w.heap.size, 1, none⟩ = some (.slice p xs.length cap) := cell_of_block hP2 rfl
    have HO2 := hide (HO.out.below hb21)
    have HB2 : Hid (Below w.heap.size w w2) := HB1.out.trans (hb21.mono HB1.out.size)
    obtain ⟨o0, o1, o2, o3, o4, -⟩ := five_of hO2
    have HOB := hide hO2
    have hne : ¬ w.heap.size = w2.heap.size := by have := lt_of_block hP2; omega
    have hne2 : ¬ w1.heap.size = w2.heap.size := by have := lt_of_block hO2; omega
    have hw12 : w1.heap.size < w2.heap.size := lt_of_block hO2
    have hww : w.heap.size < w1.heap.size := lt_of_block HPW.out
    have HB21 := hide hb21
    clear hb2 hb21 hO2 hP2
    by_cases hm : more < 1
    · go_wp2_with fail
      go_ret
      exact ⟨rfl, HB2.out⟩
    by_cases hm3 : 1024 - (f : Int) < more
    · go_wp2_with fail
      go_ret
      exact ⟨rfl, HB2.out⟩
    obtain ⟨d, rfl⟩ : ∃ d : Nat, more = (d : Int) := ⟨more.toNat, by omega⟩
    have hd0 : 0 < d := by omega
    have hfd : f + d ≤ 1024 := by omega
    have hcm := check_more HC.out hfd
    have HW3 := hide (fun w3 (h3 : Cd w3 (.slice p xs.length cap) xs) (t3 : Tbs w3) => whole_s (fuel := f + d) HX.out h3 (by rw [show ((f + d : Nat) : Int) = (f : Int) + (d : Int) by omega]; exact hcm) (HP.out.more hfd) t3)
    simp only [show ((f + d : Nat) : Int) = (f : Int) + (d : Int) by omega] at HW3
    go_wp2_with fail
    have hW3 : Below w2.heap.size w2 (w2.alloc (.cells #[.int .i64 ((f : Int) + (d : Int)), .slice p xs.length cap] 24)) := below_one w2 _
    refine (HW3.out _ (HCd.out.below (HB2.out.trans (hW3.mono HB2.out.size)) (Nat.le_refl _)) ((HT.out.below HB2.out).below hW3)).mono ?_
    rintro e w4 ⟨x, rfl, hx4, hb4⟩
    have hb42 : Below w2.heap.size w2 w4 := hW3.trans (hb4.mono (by simp))
    have HB4 : Hid (Below w.heap.size w w4) := HB2.out.trans (hb42.mono HB2.out.size)
    have hO4 := (hb42.block _ hw12).trans HOB.out
    have HO4 := hide (HO2.out.below hb42)
    have hP4 : w4.cell? ⟨w.heap.size, 0, none⟩ = some (.int .i64 (f : Int)) := (hb42.cell (p := ⟨w.heap.size, 0, none⟩) (show w.heap.size < w2.heap.size by omega)).trans p0
    have HX4 := hide hx4
    have hb41 : Below w1.heap.size w1 w4 := HB21.out.trans (hb42.mono (by omega))
    have HS14 := hide (HS1.out.below hb41)
    have HS24 := hide (HS2.out.below hb41)
    clear hb4 hb42 hW3 HW3 o0 o1 o2 o3 o4 p0 p1 hb41
    obtain ⟨o0, o1, o2, o3, o4, -⟩ := five_of hO4
    have hl1 := end_len xs f
    have hl2 := end_len xs (f + d)
    have hFM := fuel_more hd0 HP.out
    have hcl1 := chk_len (Im.end_ xs f).2
    have hpl1 := pcs_len (Im.end_ xs f).2
    have hcl2 := chk_len (Im.end_ xs (f + d)).2
    have hpl2 := pcs_len (Im.end_ xs (f + d)).2
    obtain ⟨cv2, pv2, rfl, t1, t2⟩ := hx4
    have HT1 := hide t1
    have HT2 := hide t2
    obtain ⟨pc2, cc2, rfl, -, -⟩ := t1
    obtain ⟨pp2, cp2, rfl, -, -⟩ := t2
    have hO4l := lt_of_block hO4
    have hnx : ¬ w1.heap.size = w4.heap.size := by omega
    have hnw : ¬ w.heap.size = w4.heap.size := by omega
    rcases hFM with ⟨hne1, heq⟩ | ⟨hen, hdn, hlt2, t, htt⟩
    · rw [heq] at HX4 HT1 HT2 hl2
      have heq2 := heq
      simp only [heq] at *
      have hbn : (((Im.end_ xs f).1.en : Int) != 1) = true := by rw [bne_iff_ne]; omega
      have HSO := hide (fun w5 (k : Below w4.heap.size w4 w5) => sameOutcome_eq (HO4.out.below k) (HX4.out.below k) (by omega) (by omega))
      go_wp2_with fail
      refine (HSO.out _ (below_one w4 _)).mono ?_
      rintro e w6 ⟨rfl, hb6⟩
      go_wp2_with fail
      go_ret
      exact ⟨rfl, HB4.out.trans (((below_one w4 _).trans (hb6.mono (by simp))).mono HB4.out.size)⟩
    · have e_en : ((Im.end_ xs f).1.en : Int) = 1 := by rw [hen]; rfl
      have e_dn : ((Im.end_ xs f).1.dn : Int) = (f : Int) := by rw [hdn]
      rw [e_en] at o0
      rw [e_dn] at o4
      have q1 : Im.chk (Im.end_ xs f).2 ++ Im.chk t = Im.chk (Im.end_ xs (f + d)).2 := by rw [htt, chk_cat]
      have q2 : Im.pcs (Im.end_ xs f).2 ++ Im.pcs t = Im.pcs (Im.end_ xs (f + d)).2 := by rw [htt, pcs_cat]
      have HBC := hide (fun w5 (k : Below w4.heap.size w4 w5) => begins_eq (t := Im.chk t) (HS14.out.below k) (by rw [q1]; exact HT1.out.below k) (by rw [q1]; omega))
      have HBP := hide (fun w5 (k : Below w4.heap.size w4 w5) => begins_eq (t := Im.pcs t) (HS24.out.below k) (by rw [q2]; exact HT2.out.below k) (by rw [q2]; omega))
      have hl3 : (f : Int) < ((Im.end_ xs (f + d)).1.dn : Int) := by omega
      clear e_en e_dn hen hdn htt q1 q2 hlt2
      generalize Im.end_ xs (f + d) = E2 at *
      generalize Im.end_ xs f = E1 at *
      have hP5 := Lib.cell?_alloc_some (.cells #[.int .i64 (E2.1.en : Int), .int .u64 (Im.resB E2.1 : Int), .slice pc2 (Im.chk E2.2).length cc2, .slice pp2 (Im.pcs E2.2).length cp2, .int .i64 (E2.1.dn : Int)] 48) hP4
      have o45 := Lib.cell?_alloc_some (.cells #[.int .i64 (E2.1.en : Int), .int .u64 (Im.resB E2.1 : Int), .slice pc2 (Im.chk E2.2).length cc2, .slice pp2 (Im.pcs E2.2).length cp2, .int .i64 (E2.1.dn : Int)] 48) o4
      clear hm1 hm2 hm hm3 hl2 hcl2 hpl2 hl1 hcl1 hpl1 hcm
      go_wp2_with fail
      refine (HBC.out _ (below_one w4 _)).mono ?_
      rintro e w6 ⟨rfl, hb6⟩
      have hb64 : Below w4.heap.size w4 w6 := (below_one w4 _).trans (hb6.mono (by simp))
      have o36 := (hb64.cell (p := ⟨w1.heap.size, 3, none⟩) hO4l).trans o3
      have x36 : w6.cell? ⟨w4.heap.size, 3, none⟩ = some (.slice pp2 (Im.pcs E2.2).length cp2) := cell_of_block ((hb6.block w4.heap.size (by simp)).trans (heap_alloc_new w4 _)) rfl
      have HB64 := hide hb64
      clear hb6 hb64
      go_wp2_with fail
      refine (HBP.out _ HB64.out).mono ?_
      rintro e w7 ⟨rfl, hb7⟩
      go_wp2_with fail
      go_ret
      exact ⟨rfl, HB4.out.trans ((HB64.out.trans (hb7.mono HB64.out.size)).mono HB4.out.size)⟩
  · have HW := hide (fun w1 (h1 : Cd w1 v xs) => whole_no hx h1 hE)
    obtain ⟨p, cap, rfl, -⟩ := h
    generalize Pg.checkE fuel xs = E at *
    have hb : (E.1 != 0) = true := by rw [bne_iff_ne]; exact hE
    clear hx hT hE
    go_enter Tryz.func6, Tryz.ntmps6
    go_wp2_with fail
    refine (HW.out _ (HCd.out.below (below_one w _) (Nat.le_refl _))).mono ?_
    rintro e w1 ⟨rfl, hb1⟩
    have HB1 : Hid (Below w.heap.size w w1) := (below_one w _).trans (hb1.mono (by simp))
    clear hb1
    go_wp2_with fail
    refine (iawake_true _ ((HT.out.below HB1.out).below (below_one w1 _))).mono ?_
    rintro e w2 ⟨rfl, hb2⟩
    have HB2 : Hid (Below w.heap.size w w2) := HB1.out.trans (((below_one w1 _).trans (hb2.mono (by simp))).mono HB1.out.size)
    clear hb2
    go_wp2_with fail
    go_ret
    exact ⟨rfl, HB2.out⟩
end Go.Proofs.YthjngodkpldpfaaGreatDoor
end
