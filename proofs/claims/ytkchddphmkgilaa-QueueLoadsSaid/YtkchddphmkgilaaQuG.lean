import Derived.Test.YtkchddphmkgilaaQuF
namespace Go.Proofs.Ytkchddphmkgilaa
open Go.RowKit

theorem run_copy_rows {P : Program} (w : World) (dT sT ty elem : TypeId) (s g dLen dCap : Nat) (a : Addr) (sLen sCap : Nat) (cur : Array Value) (t : TypeId) (cs : List Value)
    (hu : P.underlying dT = some (.slice elem)) (hs : (P.info? elem).map (·.size) = some s)
    (hg : w.heap[g]? = some (.cells cur t (0, 0))) (hn : cs.length = Nat.min sLen dLen * s)
    (hsrc : ∀ j v, cs[j]? = some v → w.cell? (a.add j) = some v) (hfit : cs.length = cur.size) (h1 : ∀ v ∈ cs, v.oneCell' = true) :
    (Builtin.copy_ #[dT, sT] ty #[.slice (some ⟨g, 0, none⟩) dLen dCap, .slice (some a) sLen sCap]).run P w =
      .ok (goInt (Nat.min sLen dLen)) (w.setRow g cs.toArray) := by
  have hl := run_loadCells_list (P := P) w a cs hsrc
  have hst := run_storeCells_at P g 0 t cs 0 cur w hg (by omega) h1
  have hx : (cur.toList.take (0 + 0) ++ cs ++ cur.toList.drop (0 + 0 + cs.length)) = cs := by
    rw [List.drop_of_length_le (by rw [Array.length_toList]; omega)]; simp
  rw [hx] at hst
  cases hq : P.info? elem with
  | none => simp [hq] at hs
  | some i =>
    have hi : i.size = s := by simpa [hq] using hs
    rw [hn] at hl
    simp [Builtin.copy_, run_underlying hu, Builtin.lenOf, Builtin.firstCells, sizeOf, typeInfo, hq, hi, hl, hst]
theorem run_copy_zero {P : Program} (w : World) (dT sT ty elem : TypeId) (s : Nat) (d a : Option Addr) (dLen dCap sLen sCap : Nat) (hu : P.underlying dT = some (.slice elem)) (hs : (P.info? elem).map (·.size) = some s) (hn : Nat.min sLen dLen = 0) :
    (Builtin.copy_ #[dT, sT] ty #[.slice d dLen dCap, .slice a sLen sCap]).run P w = .ok (goInt 0) w := by
  cases hq : P.info? elem with
  | none => simp [hq] at hs
  | some i =>
    have hl : ∀ (x : Addr), (loadCells x 0).run P w = .ok #[] w := fun x => by simpa using run_loadCells_list (P := P) w x [] (by simp)
    cases d <;> cases a <;> simp [Builtin.copy_, run_underlying hu, Builtin.lenOf, Builtin.firstCells, sizeOf, typeInfo, hq, hn, storeCells, hl]

theorem Try.infoR : (Try.prog.info? 30).map (fun i => (i.zero, i.size, i.bytes)) = some (some rr0.val, 8, 64) := by kernel_rfl
theorem Try.infoRs : (Try.prog.info? 30).map (·.size) = some 8 := by kernel_rfl
theorem info_parts {t : TypeId} {z : Option Value} {s b : Nat} (h : (Try.prog.info? t).map (fun i => (i.zero, i.size, i.bytes)) = some (z, s, b)) : ∃ i, Try.prog.info? t = some i ∧ i.zero = z ∧ i.size = s ∧ i.bytes = b := by
  cases hi : Try.prog.info? t with
  | none => rw [hi] at h; cases h
  | some i => rw [hi] at h; simp at h; exact ⟨i, rfl, h.1, h.2.1, h.2.2⟩
theorem Rs.cells {w : World} {ad : Option Addr} {ab ao : Nat} {L : List Rr} (h : Rs w ad ab ao L) (j : Nat) (v : Value) (hj : (rcs L)[j]? = some v) : w.cell? ((⟨ab, ao, none⟩ : Addr).add j) = some v := by
  have hl : j < (rcs L).length := (List.getElem?_eq_some_iff.1 hj).1
  rw [rcs_len] at hl
  have e : j = j / 8 * 8 + j % 8 := by omega
  have h1 := rcs_get L (j / 8) (j % 8) (by omega) (by omega)
  rw [← e, hj] at h1
  have h2 := h.c (j / 8) (by omega) (j % 8) (by omega)
  rw [← h1, show ao + j / 8 * 8 + j % 8 = ao + j by omega] at h2
  rw [Addr.add_lit]
  exact h2

set_option maxHeartbeats 1000000 in
/-- what copied makes -/
theorem copied_any {w : World} {ad : Option Addr} {ab ao cap : Nat} {L : List Rr} (h : Rs w ad ab ao L) (hl : L.length ≤ 1000) :
    Calls Try.prog 10 #[.slice ad L.length cap] w fun e w' => e = .returned (.slice (some ⟨w.heap.size, 0, none⟩) L.length L.length) ∧ w'.ownsRow w.heap.size 30 8 (.slice (some ⟨w.heap.size, 0, none⟩) L.length L.length) L.length (rcs L) ∧ Below w.heap.size w w' := by
  obtain ⟨i0, hi0, hz0, hz1, hz2⟩ := info_parts Try.infoR
  have hmk := run_make (P := Try.prog) w 22 30 i0 _ Try.underlying22 hi0 hz0 .i64 .i64 (L.length : Int) (L.length : Int) (by omega) (Int.le_refl _) (by rw [hz2]; omega) (by omega)
  rw [hz1, Int.toNat_natCast] at hmk
  obtain ⟨cur, hcur, hcs⟩ : ∃ cur, madeCells rr0.val.cells (L.length * 8) = cur ∧ cur.size = L.length * 8 := ⟨_, rfl, size_madeCells _ _⟩
  rw [hcur] at hmk
  have hg : (w.alloc (.cells cur 30)).heap[w.heap.size]? = some (.cells cur 30 (0, 0)) := heap_alloc_new w _
  have hcp : ∃ w', (Builtin.copy_ #[22, 22] 3 #[.slice (some ⟨w.heap.size, 0, none⟩) L.length L.length, .slice ad L.length cap]).run Try.prog (w.alloc (.cells cur 30)) = .ok (goInt L.length) w' ∧ w'.heap[w.heap.size]? = some (.cells (rcs L).toArray 30 (0, 0)) ∧ Below w.heap.size w w' := by
    by_cases h0 : L.length = 0
    · obtain rfl : L = [] := List.eq_nil_of_length_eq_zero h0
      refine ⟨_, run_copy_zero _ _ _ _ 30 8 _ _ _ _ _ _ Try.underlying22 Try.infoRs (by simp), ?_, below_alloc w _⟩
      obtain rfl : cur = #[] := Array.eq_empty_of_size_eq_zero (by rw [hcs]; rfl)
      exact hg
    · have hat := h.at_ (by omega)
      subst hat
      have h2 := run_copy_rows (P := Try.prog) (w.alloc (.cells cur 30)) 22 22 3 30 8 w.heap.size L.length L.length ⟨ab, ao, none⟩ L.length cap cur 30 (rcs L) Try.underlying22 Try.infoRs hg
        (by rw [rcs_len]; show _ = min _ _ * 8; rw [Nat.min_self]) (fun j v hj => Lib.cell?_alloc_some _ (h.cells j v hj)) (by rw [rcs_len, hcs]) (rcs_one_cell L)
      rw [show Nat.min L.length L.length = L.length from Nat.min_self _] at h2
      refine ⟨_, h2, setRow_heap _ _ _ _ _ _ hg, ?_⟩
      exact below_setRow (below_alloc w _) (Nat.le_refl _) _
  obtain ⟨w2, hcp, hg2, hB2⟩ := hcp
  have HG := hide hg2
  have HB := hide hB2
  clear hg2 hB2 hg h hcs hcur
  generalize w.alloc (.cells cur 30) = W1 at *
  go_enter Try.func10, Try.ntmps10
  go_wp2
  go_ret
  refine ⟨rfl, ⟨by rw [rcs_len], .inr ⟨w.heap.size, L.length, _, rfl, Nat.le_refl _, HG.out, Nat.le_refl _, by unfold maxLen; omega, by rw [List.size_toArray, rcs_len], ?_⟩⟩, HB.out⟩
  rw [List.take_of_length_le (by simp [rcs_len])]

set_option maxHeartbeats 1000000 in
theorem great_any {w : World} {ad : Option Addr} {ab ao cap : Nat} {L : List Rr} (h : Rs w ad ab ao L) (hl : L.length ≤ 1000) :
    Calls Try.prog 38 #[.slice ad L.length cap] w fun e w' => e = .returned (.int .i64 (L.foldl gbF 0)) ∧ Below w.heap.size w w' := by
  have HA := hide (askI_any (cap := cap) h (by omega) 56 #[] gbF (fun _ _ => True) 0 trivial (fun _ _ _ => rfl) (fun w1 i hi a _ _ => ⟨trivial, great1_any w1 a L[i]⟩))
  go_enter Try.func38, Try.ntmps38
  go_wp2_with fail
  refine HA.out.mono ?_
  rintro e w2 ⟨rfl, hB2, _⟩
  go_wp2_with fail
  go_ret
  exact ⟨rfl, hB2⟩
/-- does another row have the same badge -/
def shr (L : List Rr) (r : Rr) : Bool := decide (0 < r.bdg) && L.foldl (shF r) false
set_option maxHeartbeats 1000000 in
theorem shared_any {w : World} {ad : Option Addr} {ab ao cap : Nat} {L : List Rr} (h : Rs w ad ab ao L) (hl : L.length ≤ 1000) (r : Rr) :
    Calls Try.prog 29 #[.slice ad L.length cap, r.val] w fun e w' => e = .returned (.bool (shr L r)) ∧ Below w.heap.size w w' := by
  have hmf : ∀ (fn : Fn) (first cap : Array Value) (w : World), (Instr.makeFunc fn first cap).run Try.prog w = .ok (.func fn first cap) w := fun _ _ _ _ => rfl
  by_cases h0 : 0 < r.bdg
  · have hb : Bx (w.alloc r.obj) w.heap.size r := heap_alloc_new w _
    have HA := hide (askB_any (cap := cap) (h.below (below_alloc w r.obj)) (by omega) 45 #[.pointer (some ⟨w.heap.size, 0, none⟩)] (shF r) false (fun _ _ _ => rfl) (fun w1 i hi a hB => shared1_any (hb.keep (hB.block _ hb.lt)) a L[i]))
    have HE : Hid (shr L r = L.foldl (shF r) false) := by show shr L r = _; unfold shr; rw [decide_eq_true h0]; rfl
    generalize L.foldl (shF r) false = D at *
    clear h hb
    go_enter Try.func29, Try.ntmps29
    go_wp2_with fail
    refine HA.out.mono ?_
    rintro e w2 ⟨rfl, hB2⟩
    go_wp2_with fail
    go_ret
    exact ⟨by rw [HE.out]; rfl, (below_alloc w _).trans (hB2.mono (by simp))⟩
  · have HE : Hid (shr L r = false) := by show shr L r = _; unfold shr; rw [decide_eq_false h0]; rfl
    clear h
    go_enter Try.func29, Try.ntmps29
    go_wp2
    go_ret
    exact ⟨by rw [HE.out]; rfl, below_alloc _ _⟩
end Go.Proofs.Ytkchddphmkgilaa
