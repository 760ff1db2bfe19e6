import Derived.Test.YtkchddphmkgilaaQuRc
import Derived.Test.YtkchddphmkgilaaQuKe
import Derived.Test.YtkchddphmkgilaaQuFi
import Derived.Laws.AppendOwnNone
namespace Go.Proofs.Ytkchddphmkgilaa
open Go.RowKit

theorem run_append_nothing {P : Program} {w : World} (base : Nat) (t ty e : TypeId) (i : TypeInfo) (size c : Nat) (ht : P.underlying t = some (.slice e)) (hi : P.info? e = some i)
    (v : Value) (n : Nat) (xs : List Value) (hown : w.ownsRow base e size v n xs) : (Builtin.append_ #[t, t] ty #[v, .slice none 0 c]).run P w = .ok v w := by
  rcases hown.2 with ⟨rfl, rfl⟩ | ⟨g, cap, cur, rfl, _, _, hnc, _⟩
  · simp [Builtin.append_, run_underlying ht, sizeOf, typeInfo, hi, Builtin.lenOf, Builtin.firstCells]
  · simp [Builtin.append_, run_underlying ht, sizeOf, typeInfo, hi, Builtin.lenOf, Builtin.firstCells, hnc, storeCells]
/-- append of what is read, nil or not -/
theorem wpList_append_read {P : Program} {w : World} {ops : Array Oper} {rest : List Oper} {o : Oper} {a : Act} {Q : Exit → Act → World → Prop} (hgd : o.guard = none) (s x : Operand) (t : TypeId)
    (ho : o.op = .call { callee := .builtin .append, args := #[s, x], argTypes := #[t, t] })
    (base : Nat) (e : TypeId) (i : TypeInfo) (z : Value) (size bytes : Nat) (ht : P.underlying t = some (.slice e)) (hi : P.info? e = some i) (hz : i.zero = some z)
    (hsize : i.size = size) (hby : i.bytes = bytes) (hzs : z.cells.size = size) (hsz : 0 < size)
    (v : Value) (n : Nat) (xs : List Value) (hs : a.eval s = v) (hown : w.ownsRow base e size v n xs)
    (ad : Option Addr) (m c : Nat) (ys : List Value) (hx : a.eval x = .slice ad m c) (hlen : ys.length = m * size) (hnone : ad = none → m = 0) (hsrc : ∀ a0, ad = some a0 → ∀ j u, ys[j]? = some u → w.cell? (a0.add j) = some u) (h1 : ∀ u ∈ ys, u.oneCell' = true)
    (h63 : n + m ≤ maxLen) (hbytes : (n + m) * bytes ≤ 140737488355328) (hbase : base ≤ w.heap.size)
    (h : ∀ v' w', w'.ownsRow base e size v' (n + m) (xs ++ ys) → w.grownBy w' v.ownBlock → wpList P ops Q rest (a.put o.dst v') w') : wpList P ops Q (o :: rest) a w := by
  cases ad with
  | none =>
    obtain rfl := hnone rfl
    obtain rfl : ys = [] := List.length_eq_zero_iff.1 (by rw [hlen, Nat.zero_mul])
    have hrun := run_append_nothing (P := P) (w := w) base t o.type e i size c ht hi v n xs hown
    refine wpList_plain hgd fun K hK => ?_
    unfold Oper.wp
    simp [execOp, ho, resolve, invoke, builtin, hs, hx, hrun, Result.andThen]
    exact hK _ _ (h v w (by rw [Nat.add_zero, List.append_nil]; exact hown) ⟨rfl, rfl, rfl, Nat.le_refl _, fun _ _ _ => rfl⟩)
  | some a0 =>
    refine wpList_append_own _ hgd s x t ho base e i z size bytes ht hi hz hsize hby hzs hsz v n xs hs hown a0 m c ys hx hlen (hsrc a0 rfl) h1 h63 hbytes hbase ?_
    intro v' w' h2 h3 _
    exact h v' w' h2 h3
theorem Rs.src {w : World} {ad : Option Addr} {ab ao : Nat} {L : List Rr} (h : Rs w ad ab ao L) : ∀ a0, ad = some a0 → ∀ j u, (rcs L)[j]? = some u → w.cell? (a0.add j) = some u := by
  intro a0 ha j u hu
  have hl : j < (rcs L).length := (List.getElem?_eq_some_iff.1 hu).1
  rw [rcs_len] at hl
  have e := h.at_ (by omega)
  rw [ha] at e
  injection e with e
  subst e
  exact h.cells j u hu
theorem Rs.none {w : World} {ad : Option Addr} {ab ao : Nat} {L : List Rr} (h : Rs w ad ab ao L) : ad = Option.none → L.length = 0 := fun e => by
  rcases Nat.eq_zero_or_pos L.length with h0 | h0
  · exact h0
  · have := h.at_ h0; rw [e] at this; cases this
theorem own_base {w : World} {B base : Nat} {e : TypeId} {size n : Nat} {v : Value} {xs : List Value} (h : w.ownsRow B e size v n xs) (hb : base ≤ B) : w.ownsRow base e size v n xs := by
  refine ⟨h.1, ?_⟩
  rcases h.2 with h1 | ⟨g, cap, cur, rfl, hg, h2⟩
  · exact .inl h1
  · exact .inr ⟨g, cap, cur, rfl, Nat.le_trans hb hg, h2⟩
theorem own_pos {w : World} {B : Nat} {e : TypeId} {size n : Nat} {v : Value} {xs : List Value} (h : w.ownsRow B e size v n xs) (h0 : 0 < n) : ∃ g cap, v = .slice (some ⟨g, 0, none⟩) n cap ∧ B ≤ g ∧ g < w.heap.size := by
  rcases h.2 with ⟨_, h1⟩ | ⟨g, cap, cur, rfl, hg, hh, _⟩
  · omega
  · exact ⟨g, cap, rfl, hg, lt_of_block hh⟩
section
variable {w w' : World} {x : Nat} {ad : Option Addr} {ab cap : Nat} {m : Int} {L : List Rr}
set_option maxHeartbeats 1000000 in
set_option maxRecDepth 8000 in
theorem rrow_any (h : Xm w x ad ab cap m L) (hl : L.length ≤ 8) (j : Int) : Calls Try.prog 32 #[.pointer (some ⟨x, 0, none⟩), .int .i64 j] w fun e w' => e = .returned (.tuple #[(rowR L j).val, .bool (rowB L j)]) ∧ Below w.heap.size w w' := by
  have hR := h.rs
  have hlt := h.lt
  have c1 : ∀ o, (w.alloc o).cell? ⟨x, 1, none⟩ = some (.slice ad L.length cap) := fun o => Lib.cell?_alloc_some _ h.c1
  by_cases h1 : j < 1
  · have HE : Hid (rowR L j = rr0) := if_neg (by omega)
    have HF : Hid (rowB L j = false) := decide_eq_false (by omega)
    go_enter Try.func32, Try.ntmps32
    go_wp2
    refine bodyPost_ret (by rw [results_cell_tmp (fn := Try.f32) rfl]; go_simp; rfl) rfl ?_
    exact ⟨by rw [HE.out, HF.out]; rfl, below_alloc _ _⟩
  by_cases h2 : (L.length : Int) < j
  · have HE : Hid (rowR L j = rr0) := if_neg (by omega)
    have HF : Hid (rowB L j = false) := decide_eq_false (by omega)
    go_enter Try.func32, Try.ntmps32
    go_wp2
    refine bodyPost_ret (by rw [results_cell_tmp (fn := Try.f32) rfl]; go_simp; rfl) rfl ?_
    exact ⟨by rw [HE.out, HF.out]; rfl, below_alloc _ _⟩
  obtain ⟨n, rfl⟩ : ∃ n : Nat, j = (n : Int) + 1 := ⟨(j - 1).toNat, by omega⟩
  have hn : n < L.length := by omega
  have HE : Hid (rowR L ((n : Int) + 1) = L[n]) := by
    show rowR L _ = _
    unfold rowR
    rw [if_pos (by omega), show ((n : Int) + 1 - 1).toNat = n by omega, List.getD_eq_getElem?_getD, List.getElem?_eq_getElem hn]; rfl
  have HF : Hid (rowB L ((n : Int) + 1) = true) := decide_eq_true (by omega)
  have hat := hR.at_ (by omega)
  subst hat
  have hlr := hR.lt (by omega)
  obtain ⟨k0, k1, k2, k3, k4, k5, k6, k7⟩ := hR.eight0 hn
  have e1 : (n : Int) + 1 - 1 = (n : Int) := by omega
  have hnI : (n : Int) < (L.length : Int) := by omega
  clear h hR
  generalize L[n] = r at *
  go_enter Try.func32, Try.ntmps32
  go_wp2
  refine bodyPost_ret (by rw [results_cell_tmp (fn := Try.f32) rfl]; go_simp; rfl) rfl ?_
  exact ⟨by rw [HE.out, HF.out], below_alloc _ _⟩
set_option maxHeartbeats 2000000 in
set_option maxRecDepth 8000 in
theorem rset_any (h : Xm w x ad ab cap m L) (hl : L.length ≤ 8) {n : Nat} (hn : n < L.length) (r : Rr) (hr : r.job = (n : Int) + 1) : Calls Try.prog 57 #[.pointer (some ⟨x, 0, none⟩), r.val] w fun e w' => e = .returned (.tuple #[]) ∧ ∃ ad2 ab2 cap2, Xm w' x ad2 ab2 cap2 m (L.set n r) ∧ w.heap.size ≤ ab2 ∧ On x w w' := by
  obtain ⟨i0, hi0, hz0, hz1, hz2⟩ := info_parts Try.infoR
  have hlt := h.lt
  have c1 := h.c1
  have hat := h.rs.at_ (by omega)
  subst hat
  have hs0 := World.size_alloc w r.obj
  have HJ := hide hr
  have HX0 := hide (h.below (below_alloc w r.obj))
  have HY0 : Hid (Bx (w.alloc r.obj) w.heap.size r) := hide (heap_alloc_new w _)
  have HMd : Hid (((w.alloc r.obj).alloc (.cells #[] 30)).ownsRow (w.heap.size + 1) 30 8 (.slice (some ⟨w.heap.size + 1, 0, none⟩) 0 0) 0 []) := by
    have h5 := World.ownsRow_made (base := w.heap.size + 1) (e := 30) (size := 8) (w.alloc r.obj) #[] 0 (by rw [hs0]; exact Nat.le_refl _) (by decide) rfl
    rw [hs0] at h5
    exact h5
  clear h hr
  go_enter Try.func57, Try.ntmps57
  go_upto_region 2 with (at_builtin; refine wpList_append_own _ rfl _ _ 22 rfl (w.heap.size + 1) 30 i0 rr0.val 8 64 Try.underlying22 hi0 hz0 hz1 hz2 rfl (by decide) (.slice (some ⟨w.heap.size + 1, 0, none⟩) 0 0) 0 [] rfl HMd.out ⟨ab, 0, none⟩ L.length cap (rcs L) rfl (rcs_len L) (fun j u hu => Lib.cell?_alloc_some _ (HX0.out.rs.cells j u hu)) (rcs_one_cell L) (by unfold maxLen; omega) (by omega) (by simp) ?_; intro v3 w3 hown hgrow hnil)
  rw [Nat.zero_add, List.nil_append] at hown
  obtain ⟨g, cap3, rfl, hg1, hg2⟩ := own_pos hown (by omega)
  have hB3 : Below (w.alloc r.obj).heap.size (w.alloc r.obj) w3 := ((Below.refl _ (w.alloc r.obj)).alloc (Nat.le_refl _) _).grown hgrow (by simp) (fun k hk => by have e : w.heap.size + 1 = k := Option.some.inj hk; omega)
  have HX3 := hide (HX0.out.below hB3)
  have hy3 : Bx w3 w.heap.size r := HY0.out.keep (hB3.block _ HY0.out.lt)
  have hyl := hy3.lt
  obtain ⟨d0, d1, d2, d3, d4, d5, d6, d7⟩ := hy3.cells
  obtain ⟨k0, k1, k2, k3, k4, k5, k6, k7⟩ := (Rs.own0 hown).eight0 hn
  have hfz : ∀ o, w3.frozen? ⟨g, o, none⟩ = false := fun o => by
    rcases hown.2 with ⟨h1, _⟩ | ⟨g2, cap2, cur, h1, hb, hg, _⟩
    · cases h1
    · injection h1 with h1; injection h1 with h1; injection h1 with h1; subst h1; simp [World.frozen?, hg]
  have z0 := hfz (n * 8)
  have z1 := hfz (n * 8 + 1)
  have z2 := hfz (n * 8 + 2)
  have z3 := hfz (n * 8 + 3)
  have z4 := hfz (n * 8 + 4)
  have z5 := hfz (n * 8 + 5)
  have z6 := hfz (n * 8 + 6)
  have z7 := hfz (n * 8 + 7)
  have hgx : x ≠ g := by omega
  have HO4 := hide (own_set8a hown hn r)
  have hx4 : (set8a w3 g (n * 8) r).heap[x]? = some (.cells #[.int .i64 m, .slice (some ⟨ab, 0, none⟩) L.length cap] 50 (0, 0)) := (set8a_other _ _ _ _ _ hgx).trans HX3.out.blk
  have x1 : (set8a w3 g (n * 8) r).cell? ⟨x, 1, none⟩ = some (.slice (some ⟨ab, 0, none⟩) L.length cap) := by simp [World.cell?, hx4]
  have xz : (set8a w3 g (n * 8) r).frozen? ⟨x, 1, none⟩ = false := by simp [World.frozen?, hx4]
  have hnI : (n : Int) < (L.length : Int) := by omega
  have hn8 : (n : Int) ≤ 8 := by omega
  have hj : r.job - 1 = (n : Int) := by have := HJ.out; omega
  have HFin : Hid (Xm ((set8a w3 g (n * 8) r).setCell ⟨x, 1, none⟩ (.slice (some ⟨g, 0, none⟩) L.length cap3)) x (some ⟨g, 0, none⟩) g cap3 m (L.set n r) ∧ On x w ((set8a w3 g (n * 8) r).setCell ⟨x, 1, none⟩ (.slice (some ⟨g, 0, none⟩) L.length cap3))) := by
    have h6 := Xm.put (L' := L.set n r) (ab' := g) (cap' := cap3) hx4 (by rw [List.length_set]; exact own_base HO4.out (Nat.zero_le _)) (Ne.symm hgx)
    rw [List.length_set] at h6
    refine hide ⟨h6, ?_⟩
    have h7 : On x w w3 := On.of_below ((below_alloc w r.obj).trans (hB3.mono (by omega)))
    have h8 := Ex.set8a w3 g (n * 8) r
    have h9 : On x w (set8a w3 g (n * 8) r) := ⟨h8.os.trans h7.os, h8.tape.trans h7.tape, h8.output.trans h7.output, Nat.le_trans h7.size h8.size, fun k hk hne => (h8.block k (Nat.lt_of_lt_of_le hk h7.size) (by omega)).trans (h7.block k hk hne)⟩
    exact h9.trans (on_put _ _ _)
  clear hown hgrow hnil HX0 HY0 HMd HX3 hy3 hfz HO4 hB3 c1
  clear hx4
  go_wp2_with fail
  go_end0
  exact ⟨rfl, _, _, _, HFin.out.1, by omega, HFin.out.2⟩
end
end Go.Proofs.Ytkchddphmkgilaa
