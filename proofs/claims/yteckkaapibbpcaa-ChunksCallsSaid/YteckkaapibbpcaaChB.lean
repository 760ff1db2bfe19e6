import Derived.Test.YteckkaapibbpcaaChA
namespace Go.Proofs.Yteckkaapibbpcaa
open Go.RowKit

theorem Try.infoS : (Try.prog.info? 9).map (fun i => (i.zero, i.size, i.bytes)) = some (some (.string ByteArray.empty), 1, 16) := by kernel_rfl
theorem info_parts {t : TypeId} {z : Option Value} {s b : Nat} (h : (Try.prog.info? t).map (fun i => (i.zero, i.size, i.bytes)) = some (z, s, b)) : ∃ i, Try.prog.info? t = some i ∧ i.zero = z ∧ i.size = s ∧ i.bytes = b := by
  cases hi : Try.prog.info? t with
  | none => rw [hi] at h; cases h
  | some i => rw [hi] at h; simp at h; exact ⟨i, rfl, h.1, h.2.1, h.2.2⟩
theorem one_new (w : World) (u : Value) (t : TypeId) : ∀ j x, [u][j]? = some x → (w.alloc (.cells #[u] t)).cell? ((⟨w.heap.size, 0, none⟩ : Addr).add j) = some x := by
  intro j x hj
  match j, hj with
  | 0, hj => simp at hj; subst hj; simp [Addr.add]
/-- only block b and one cell of block X are turned -/
structure Pt (b X k : Nat) (w w' : World) : Prop where
  os : w'.os = w.os
  tape : w'.tape = w.tape
  output : w'.output = w.output
  size : w.heap.size ≤ w'.heap.size
  block : ∀ j, j < w.heap.size → j ≠ b → j ≠ X → w'.heap[j]? = w.heap[j]?
  cell : ∀ i, i ≠ k → w'.cell? ⟨X, i, none⟩ = w.cell? ⟨X, i, none⟩
  shape : ∀ cur t, w.heap[X]? = some (.cells cur t (0, 0)) → ∃ cur', w'.heap[X]? = some (.cells cur' t (0, 0)) ∧ cur'.size = cur.size
theorem Pt.of {b X k : Nat} {w w1 : World} (hb : Below w.heap.size w w1) (hX : X < w.heap.size) (hn : X ≠ b) (v u : Value) (j : Nat) : Pt b X k w ((w1.setCell ⟨X, k, none⟩ v).setCell ⟨b, j, none⟩ u) := by
  refine ⟨hb.os, hb.tape, hb.output, by rw [setCell_size, setCell_size]; exact hb.size, fun i hi h1 h2 => ?_, fun i hi => ?_, fun cur t hc => ?_⟩
  · exact (Below.heap_setCell _ ⟨b, j, none⟩ _ i h1).trans ((Below.heap_setCell _ ⟨X, k, none⟩ _ i h2).trans (hb.block i hi))
  · rw [World.cell?_of_block (w := w1.setCell ⟨X, k, none⟩ v) (a := ⟨X, i, none⟩) (Below.heap_setCell _ ⟨b, j, none⟩ _ X hn)]
    have h1 := World.cell?_setCells_out X [v] k w1 ⟨X, i, none⟩ (fun _ _ => by show i < k ∨ k + [v].length ≤ i; simp; omega)
    exact h1.trans (World.cell?_of_block (hb.block X hX))
  · have h1 := heap_set_self w1 X k v cur t (0, 0) ((hb.block X hX).trans hc)
    exact ⟨_, (Below.heap_setCell _ ⟨b, j, none⟩ _ X hn).trans h1, by simp⟩
theorem Pt.drewN {b X k : Nat} {w w' : World} (h : Pt b X k w w') (n : Nat) : Pt b X k w (w'.drewN n) := ⟨h.os, h.tape, h.output, h.size, h.block, h.cell, h.shape⟩
theorem Pt.pre {b X k : Nat} {w w' : World} {n : Nat} (h : Pt b X k (w.drewN n) w') : Pt b X k w w' := ⟨h.os, h.tape, h.output, h.size, h.block, h.cell, h.shape⟩
theorem On.pre {b : Nat} {w w' : World} {n : Nat} (h : On b (w.drewN n) w') : On b w w' := ⟨h.os, h.tape, h.output, h.size, h.block⟩
theorem Pt.below {b X k : Nat} {w w' : World} (h : Pt b X k w w') {B : Nat} (h1 : B ≤ b) (h2 : B ≤ X) (h3 : B ≤ w.heap.size) : Below B w w' := ⟨h.os, h.tape, h.output, h.size, fun j hj => h.block j (by omega) (by omega) (by omega)⟩
/-- where a text more lies -/
def PutF (b : Nat) (s : Sn) (ad : Option Addr) (cap X o : Nat) (ad' : Option Addr) (cap' X' o' : Nat) (w w' : World) : Prop :=
  (s.R.length < cap ∧ ad' = ad ∧ cap' = cap ∧ X' = X ∧ o' = o ∧ Pt b X (o + s.R.length) w w') ∨ (w.heap.size ≤ X' ∧ On b w w')
def Sn.add (s : Sn) (t : ByteArray) : Sn := { s with R := s.R ++ [t] }
theorem Rs.cells {w : World} {ad : Option Addr} {cap X o : Nat} {R : List ByteArray} (h : Rs w ad cap X o R) : ∀ j u, (R.map Value.string)[j]? = some u → w.cell? ⟨X, o + j, none⟩ = some u := by
  intro j u hj
  rw [List.getElem?_map] at hj
  cases hr : R[j]? with
  | none => rw [hr] at hj; cases hj
  | some t =>
    rw [hr] at hj
    obtain ⟨hlt, ht⟩ := List.getElem?_eq_some_iff.mp hr
    rw [h.c j hlt, ht]
    exact hj
theorem Rs.spare {w : World} {ad : Option Addr} {cap X o : Nat} {R : List ByteArray} (h : Rs w ad cap X o R) {k : Nat} (hk : k < cap) : (w.cell? ⟨X, o + k, none⟩).isSome = true ∧ w.frozen? ⟨X, o + k, none⟩ = false := by
  obtain ⟨cur, hc, hs⟩ := h.blk (by omega)
  have hlt : o + k < cur.size := by omega
  refine ⟨?_, ?_⟩
  · rw [cell_of_row w X (o + k) cur _ _ hc]
    simp [hlt]
  · simp [World.frozen?, hc]
theorem Rs.below {w w' : World} {ad : Option Addr} {cap X o : Nat} {R : List ByteArray} (h : Rs w ad cap X o R) (hb : Below w.heap.size w w') : Rs w' ad cap X o R := h.keep fun h0 => hb.block X (h.lt h0)
theorem Rs.none_ {w : World} {ad : Option Addr} {cap X o : Nat} {R : List ByteArray} (h : Rs w ad cap X o R) (hr : ¬ R.length < cap) : ad = none → R.length = 0 ∧ cap = 0 := by
  intro hn
  have h1 := h.le
  rcases Nat.eq_zero_or_pos cap with h0 | h0
  · omega
  · have h3 := h.at_ h0
    rw [hn] at h3
    cases h3
theorem Rs.olds {w : World} {ad : Option Addr} {cap X o : Nat} {R : List ByteArray} (h : Rs w ad cap X o R) : ∀ ba, ad = some ba → ∀ j u, (R.map Value.string)[j]? = some u → w.cell? (ba.add j) = some u := by
  intro ba hba j u hj
  have hlt : j < R.length := by
    have := (List.getElem?_eq_some_iff.mp hj).1
    simpa using this
  have h3 := h.at_ (by have := h.le; omega)
  rw [hba] at h3
  cases h3
  rw [Addr.add_lit]
  exact h.cells j u hj
/-- with room -/
theorem Sb.room {w w1 : World} {b : Nat} {s : Sn} {ad : Option Addr} {cap X o : Nat} (h : Sb w b s ad cap X o) (hc : s.R.length < cap) (hb : Below w.heap.size w w1) (t : ByteArray) :
    Sb ((w1.setCell ⟨X, o + s.R.length, none⟩ (.string t)).setCell ⟨b, 3, none⟩ (.slice ad (s.R.length + 1) cap)) b (s.add t) ad cap X o := by
  have hne := h.ne (by omega)
  have h1 : (w1.setCell ⟨X, o + s.R.length, none⟩ (.string t)).heap[b]? = some (.cells (scs s ad cap) 53 (0, 0)) := (Below.heap_setCell _ ⟨X, o + s.R.length, none⟩ _ b (Ne.symm hne)).trans ((hb.block b h.lt).trans h.cb)
  have h2 := heap_set_self _ b 3 (.slice ad (s.R.length + 1) cap) _ _ _ h1
  have hP := Pt.of (k := o + s.R.length) hb (h.rs.lt (by omega)) hne (.string t) (.slice ad (s.R.length + 1) cap) 3
  refine ⟨by simpa [scs, Sn.add] using h2, ⟨by show (s.R ++ [t]).length ≤ cap; simp; omega, h.rs.at_, fun h0 => ?_, fun i hi => ?_⟩⟩
  · obtain ⟨cur, hcur, hs⟩ := h.rs.blk h0
    obtain ⟨cur', h3, h4⟩ := hP.shape cur _ hcur
    exact ⟨cur', h3, by omega⟩
  · have hi' : i < (s.R ++ [t]).length := hi
    by_cases hlt : i < s.R.length
    · rw [hP.cell _ (by omega), h.rs.c i hlt]
      show _ = some (Value.string ((s.R ++ [t])[i]'hi'))
      rw [List.getElem_append_left hlt]
    · have hei : i = s.R.length := by simp at hi'; omega
      subst hei
      rw [World.cell?_of_block (w := w1.setCell ⟨X, o + s.R.length, none⟩ (.string t)) (a := ⟨X, o + s.R.length, none⟩) (Below.heap_setCell _ ⟨b, 3, none⟩ _ X hne)]
      have hsp := (h.rs.below hb).spare hc
      have h5 := World.cell?_setCells_in X [.string t] (o + s.R.length) w1 (fun j hj => by
        have : j = 0 := by simp at hj; omega
        subst this
        exact hsp.1) 0 (by simp)
      have h6 : (w1.setCells X (o + s.R.length) [.string t]).cell? ⟨X, o + s.R.length, none⟩ = some (.string t) := h5
      refine h6.trans ?_
      show _ = some (Value.string ((s.R ++ [t])[s.R.length]'hi'))
      simp
theorem own_form {w : World} {B : Nat} {e : TypeId} {size n : Nat} {v : Value} {xs : List Value} (h : w.ownsRow B e size v n xs) (hn : 0 < n) : ∃ g cap cur, v = .slice (some ⟨g, 0, none⟩) n cap ∧ B ≤ g ∧ w.heap[g]? = some (.cells cur e (0, 0)) ∧ n ≤ cap ∧ cur.size = cap * size ∧ cur.toList.take (n * size) = xs := by
  rcases h.2 with ⟨_, h0⟩ | ⟨g, cap, cur, hv, hb, hg, h1, _, h2, h3⟩
  · omega
  · exact ⟨g, cap, cur, hv, hb, hg, h1, h2, h3⟩
/-- a row that is owned, read -/
theorem own_rs {w : World} {g cap : Nat} {cur : Array Value} {R : List ByteArray} (hg : w.heap[g]? = some (.cells cur 9 (0, 0))) (hle : R.length ≤ cap) (hs : cur.size = cap * 1) (ht : cur.toList.take (R.length * 1) = R.map Value.string) : Rs w (some ⟨g, 0, none⟩) cap g 0 R := by
  refine ⟨hle, fun _ => rfl, fun _ => ⟨cur, hg, by omega⟩, fun i hi => ?_⟩
  rw [Nat.zero_add, cell_of_row w g i cur _ _ hg]
  have h1 : (cur.toList.take (R.length * 1))[i]? = some (.string R[i]) := by rw [ht, List.getElem?_map, List.getElem?_eq_getElem hi]; rfl
  rw [List.getElem?_take] at h1
  split at h1
  · rw [← Array.getElem?_toList]
    exact h1
  · cases h1
theorem grown_below {w w' : World} (h : w.grownBy w' none) : Below w.heap.size w w' := ⟨h.os, h.tape, h.output, h.size, fun k hk => h.block k hk (by simp)⟩
/-- grown -/
theorem Sb.grow {w w1 : World} {b : Nat} {s : Sn} {ad : Option Addr} {cap X o : Nat} (h : Sb w b s ad cap X o) (hb : Below w.heap.size w w1) (t : ByteArray) {g c : Nat} {cur : Array Value} (hg : w1.heap[g]? = some (.cells cur 9 (0, 0))) (hle : s.R.length + 1 ≤ c) (hs : cur.size = c * 1) (ht : cur.toList.take ((s.R.length + 1) * 1) = (s.R ++ [t]).map Value.string) :
    Sb (w1.setCell ⟨b, 3, none⟩ (.slice (some ⟨g, 0, none⟩) (s.R.length + 1) c)) b (s.add t) (some ⟨g, 0, none⟩) c g 0 := by
  have h1 := (hb.block b h.lt).trans h.cb
  have h2 := heap_set_self _ b 3 (.slice (some ⟨g, 0, none⟩) (s.R.length + 1) c) _ _ _ h1
  have hne : g ≠ b := blk_ne hg h1 (by decide)
  refine ⟨by simpa [scs, Sn.add] using h2, ?_⟩
  exact (own_rs (R := s.R ++ [t]) hg (by simpa using hle) hs (by simpa using ht)).keep fun _ => Below.heap_setCell _ ⟨b, 3, none⟩ _ g hne

set_option maxHeartbeats 2000000 in
set_option maxRecDepth 8000 in
theorem put_any {w : World} {b : Nat} {s : Sn} {ad : Option Addr} {cap X o : Nat} (hk : s.R.length ≤ 32) (h : Sb w b s ad cap X o) (t : ByteArray) :
    Calls Try.prog 28 #[.pointer (some ⟨b, 2, none⟩), .string t] w fun e w' => e = .returned (.tuple #[]) ∧ ∃ ad' cap' X' o', Sb w' b (s.add t) ad' cap' X' o' ∧ PutF b s ad cap X o ad' cap' X' o' w w' := by
  have c3 := h.c3
  have z3 := h.z 3
  have hlt := h.lt
  have HH := hide h
  clear h
  obtain ⟨iS, hiS, zS0, zS1, zS2⟩ := info_parts Try.infoS
  have HB1 : Hid (Below w.heap.size w (w.alloc (.cells #[.string t] 9))) := hide (below_alloc w _)
  by_cases hr : s.R.length < cap
  · have had := HH.out.rs.at_ (by omega)
    have HR := hide hr
    have hlX := HH.out.rs.lt (by omega)
    have hne := HH.out.ne (by omega)
    subst had
    have HW := hide (HH.out.room HR.out HB1.out t)
    have HP := hide (Pt.of (k := o + s.R.length) HB1.out hlX hne (.string t) (.slice (some ⟨X, o, none⟩) (s.R.length + 1) cap) 3)
    have k3 : (w.alloc (.cells #[.string t] 9)).setCells X (o + s.R.length) [.string t] = (w.alloc (.cells #[.string t] 9)).setCell ⟨X, o + s.R.length, none⟩ (.string t) := rfl
    have y3 : ((w.alloc (.cells #[.string t] 9)).setCells X (o + s.R.length) [.string t]).heap[b]? = some (.cells (scs s (some ⟨X, o, none⟩) cap) 53 (0, 0)) := (Below.heap_setCell _ ⟨X, o + s.R.length, none⟩ _ b (Ne.symm hne)).trans ((HB1.out.block b hlt).trans HH.out.cb)
    have y4 : ((w.alloc (.cells #[.string t] 9)).setCells X (o + s.R.length) [.string t]).cell? ⟨b, 3, none⟩ = some (.slice (some ⟨X, o, none⟩) s.R.length cap) := by simp only [World.cell?, y3]; rfl
    have y5 : ((w.alloc (.cells #[.string t] 9)).setCells X (o + s.R.length) [.string t]).frozen? ⟨b, 3, none⟩ = false := by simp [World.frozen?, y3]
    have HK := hide k3
    clear k3 y3
    go_enter Try.func28, Try.ntmps28
    clear hr
    go_wp2_with (at_builtin; refine wpList_append_arg _ rfl _ _ 35 rfl 9 iS (.string ByteArray.empty) 1 16 Try.underlying35 hiS zS0 zS1 zS2 rfl (by decide) X o s.R.length cap (s.R.map Value.string) rfl (by simp) (Rs.cells (HH.out.rs.below HB1.out)) ⟨w.heap.size, 0, none⟩ 1 1 [.string t] rfl rfl (one_new _ _ _) (by intro u hu; simp at hu; subst hu; rfl) (fun _ j hj => by obtain rfl : j = 0 := (by simp at hj; omega); rw [Nat.mul_one, Nat.add_zero]; exact (HH.out.rs.below HB1.out).spare HR.out) (by unfold maxLen; omega) (by omega) (fun _ => ?_) (fun hg => absurd hg (by have := HR.out; omega)))
    go_end0
    rw [HK.out]
    exact ⟨rfl, _, _, _, _, HW.out, .inl ⟨HR.out, rfl, rfl, rfl, rfl, HP.out⟩⟩
  · have HR := hide hr
    go_enter Try.func28, Try.ntmps28
    clear hr
    go_wp2_with (at_builtin; go_loud (refine wpList_append_grows _ rfl _ _ 35 rfl 9 iS (.string ByteArray.empty) 1 16 Try.underlying35 hiS zS0 zS1 zS2 rfl (by decide) ad s.R.length cap (s.R.map Value.string) rfl (HH.out.rs.none_ HR.out) (by simp) ((HH.out.rs.below HB1.out).olds) ⟨w.heap.size, 0, none⟩ 1 1 [.string t] rfl rfl (one_new _ _ _) (by intro u hu; simp at hu; subst hu; rfl) (by have := HR.out; omega) (by unfold maxLen; omega) (by omega) ?_; intro v1 w1 hown1 hgr1; have hB2 := HB1.out.trans ((grown_below hgr1).mono (by rw [World.size_alloc]; omega)); obtain ⟨g, c, cur, rfl, hbg, hg, hle, hs, ht⟩ := own_form hown1 (by omega); have HW := hide (HH.out.grow hB2 t hg hle hs (by rw [ht]; simp)); have HO : Hid (On b w (w1.setCell ⟨b, 3, none⟩ (.slice (some ⟨g, 0, none⟩) (s.R.length + 1) c))) := hide ((On.of_below hB2).set _ _); have y3 := (hB2.block b hlt).trans HH.out.cb; have y4 : w1.cell? ⟨b, 3, none⟩ = some (.slice ad s.R.length cap) := (by simp only [World.cell?, y3]; rfl); have y5 : w1.frozen? ⟨b, 3, none⟩ = false := (by simp [World.frozen?, y3]); have HG : Hid (w.heap.size ≤ g) := hide (by rw [World.size_alloc] at hbg; omega); clear y3 hB2 hown1 hgr1 hg hle hs ht hbg))
    go_end0
    exact ⟨rfl, _, _, _, _, HW.out, .inr ⟨HG.out, HO.out⟩⟩
end Go.Proofs.Yteckkaapibbpcaa
