import Derived.Test.YtkfnedhllfdghaaGreatDoorMgBL
import Derived.Test.YtkfnedhllfdghaaGreatDoorMgBM
import Derived.Test.YtkfnedhllfdghaaGreatDoorMgBP

section
namespace Go.Proofs.YtkfnedhllfdghaaGreatDoor.RN
open Go.RowKit Go.Shelf
set_option maxRecDepth 20000

theorem cell_lt {w : World} {g o : Nat} {v : Value} (h : w.cell? ⟨g, o, none⟩ = some v) : g < w.heap.size := by
  by_cases hg : g < w.heap.size
  · exact hg
  · have : w.heap[g]? = none := Array.getElem?_eq_none (by omega)
    simp [World.cell?, this] at h
/-- a row of structs that is read: of each this many cells -/
structure Er (w : World) (ad : Option Addr) (ab sz : Nat) (T : List (List Value)) : Prop where
  at_ : 0 < T.length → ad = some ⟨ab, 0, none⟩
  c : ∀ i (h : i < T.length) k v, (T[i])[k]? = some v → w.cell? ⟨ab, i * sz + k, none⟩ = some v
theorem Er.low {w w' : World} {ad : Option Addr} {ab sz : Nat} {T : List (List Value)} (h : Er w ad ab sz T) (hb : Below w.heap.size w w') : Er w' ad ab sz T :=
  ⟨h.at_, fun i hi k v hv => (hb.cell (p := ⟨ab, i * sz + k, none⟩) (cell_lt (h.c i hi k v hv))).trans (h.c i hi k v hv)⟩
theorem own_er {w : World} {base cap sz n : Nat} {t : TypeId} {ad : Option Addr} {T : List (List Value)} {xs : List Value} (h : w.ownsRow base t sz (.slice ad n cap) n xs) (hn : n = T.length) (hx : ∀ i (hi : i < T.length) k v, (T[i])[k]? = some v → xs[i * sz + k]? = some v) : ∃ ab, Er w ad ab sz T := by
  subst hn
  rcases h.2 with ⟨_, h0⟩ | ⟨g, cap', cur, h1, _⟩
  · exact ⟨0, fun h => absurd h (by omega), fun i h => absurd h (by omega)⟩
  · injection h1 with h1 h2 h3
    subst h1
    refine ⟨g, fun _ => rfl, fun i hi k v hv => ?_⟩
    have := h.cells (g := g) rfl (i * sz + k) _ (hx i hi k v hv)
    rw [Addr.add_lit, Nat.zero_add] at this
    exact this
theorem ev_at (T : List Ev) : ∀ i (hi : i < (T.map Ev.cs).length) k v, ((T.map Ev.cs)[i])[k]? = some v → (ecs T)[i * 13 + k]? = some v := by
  intro i hi k v hv
  have hi' : i < T.length := by simpa using hi
  rw [List.getElem_map] at hv
  have hk : k < 13 := (List.getElem?_eq_some_iff.mp hv).1
  rw [ecs_get T i k hi' hk]
  exact hv
theorem dg_at (T : List Dg) : ∀ i (hi : i < (T.map Dg.cs).length) k v, ((T.map Dg.cs)[i])[k]? = some v → (dgs T)[i * 6 + k]? = some v := by
  induction T with
  | nil => intro i hi; exact absurd hi (by simp)
  | cons d l ih =>
    intro i hi k v hv
    have e : dgs (d :: l) = d.cs ++ dgs l := rfl
    rw [e]
    cases i with
    | zero =>
      have hk : k < 6 := (List.getElem?_eq_some_iff.mp hv).1
      rw [Nat.zero_mul, Nat.zero_add, List.getElem?_append_left (by show k < 6; exact hk)]
      exact hv
    | succ i =>
      rw [List.getElem?_append_right (by show 6 ≤ _; omega)]
      have e2 : (i + 1) * 6 + k - d.cs.length = i * 6 + k := by show (i + 1) * 6 + k - 6 = _; omega
      rw [e2]
      exact ih i (by simpa using hi) k v hv
theorem texts_nil (w : World) : Calls Tryz.prog 85 #[.slice none 0 0, .slice none 0 0] w fun e w' => e = .returned (.bool true) ∧ Below w.heap.size w w' := by
  go_enter Tryz.func85, Tryz.ntmps85
  go_wp2
  go_loopw [5] (fun u wr => ∃ n : Nat, u = .int .i64 0 ∧ wr = w.drewN n) (fun _ _ => 0)
  case atStart => exact ⟨0, rfl, rfl⟩
  case round =>
    obtain ⟨n, rfl, rfl⟩ := hrel
    go_wp2
    go_ret
    exact ⟨rfl, CH.below_drewN (Below.refl _ w) n⟩
set_option maxHeartbeats 4000000 in
theorem event_true (w : World) (d : Ev) :
    Calls Tryz.prog 41 #[.agg d.cs.toArray, .agg d.cs.toArray] w fun e w' => e = .returned (.bool true) ∧ Below w.heap.size w w' := by
  obtain ⟨dk, dn, dl, djo, dba, dix, dco, drc, drb, dtx⟩ := d
  have HC := hide texts_nil
  have HB0 : Hid (Below w.heap.size w ((w.alloc (.cells #[.int .i64 dk, .int .i64 0, .int .i64 dn, .int .i64 dl, .int .i64 djo, .int .i64 dba, .int .i64 dix, .int .i64 dco, .int .i64 0, .int .i64 drc, .int .u64 (drb : Int), .string dtx, .slice none 0 0] 98)).alloc (.cells #[.int .i64 dk, .int .i64 0, .int .i64 dn, .int .i64 dl, .int .i64 djo, .int .i64 dba, .int .i64 dix, .int .i64 dco, .int .i64 0, .int .i64 drc, .int .u64 (drb : Int), .string dtx, .slice none 0 0] 98))) := hide ((CH.below_alloc w _).trans ((CH.below_alloc (w.alloc (.cells #[.int .i64 dk, .int .i64 0, .int .i64 dn, .int .i64 dl, .int .i64 djo, .int .i64 dba, .int .i64 dix, .int .i64 dco, .int .i64 0, .int .i64 drc, .int .u64 (drb : Int), .string dtx, .slice none 0 0] 98)) _).mono (by simp)))
  show Calls _ _ #[.agg #[.int .i64 dk, .int .i64 0, .int .i64 dn, .int .i64 dl, .int .i64 djo, .int .i64 dba, .int .i64 dix, .int .i64 dco, .int .i64 0, .int .i64 drc, .int .u64 (drb : Int), .string dtx, .slice none 0 0], .agg #[.int .i64 dk, .int .i64 0, .int .i64 dn, .int .i64 dl, .int .i64 djo, .int .i64 dba, .int .i64 dix, .int .i64 dco, .int .i64 0, .int .i64 drc, .int .u64 (drb : Int), .string dtx, .slice none 0 0]] _ _
  go_enter Tryz.func41, Tryz.ntmps41
  go_wp2_with fail
  refine (HC.out _).mono ?_
  rintro e w' ⟨rfl, hb⟩
  have HB1 := hide (HB0.out.trans (hb.mono HB0.out.size))
  clear hb HB0 HC
  go_wp2_with fail
  go_ret
  exact ⟨rfl, HB1.out⟩
set_option maxHeartbeats 8000000 in
theorem events_true {w : World} {ad ad' : Option Addr} {g1 g2 k1 k2 N : Nat} {T : List Ev} (hN : T.length = N) (h : Er w ad g1 13 (T.map Ev.cs)) (h' : Er w ad' g2 13 (T.map Ev.cs)) (hl : N ≤ 1000000000) :
    Calls Tryz.prog 15 #[.slice ad N k1, .slice ad' N k2] w fun e w' => e = .returned (.bool true) ∧ Below w.heap.size w w' := by
  have HE := hide h
  have HE' := hide h'
  have HN := hide hN
  clear h h' hN
  go_enter Tryz.func15, Tryz.ntmps15
  go_wp2_with fail
  go_loopw [5] (fun u wr => ∃ i : Nat, u = .int .i64 (i : Int) ∧ i ≤ N ∧ Hid (Below w.heap.size w wr)) (fun u _ => (N - (intOf u).toNat))
  case atStart => exact ⟨0, rfl, Nat.zero_le _, hide (Below.refl _ _)⟩
  case round =>
    obtain ⟨i, rfl, hi, HBr⟩ := hrel
    by_cases hil : i < N
    · have hiT : i < (T.map Ev.cs).length := by have := HN.out; simp; omega
      have hiT2 : i < T.length := by have := HN.out; omega
      have ea := HE.out.at_ (by omega)
      have ea' := HE'.out.at_ (by omega)
      have q1 := HE.out.c i hiT
      have q2 := HE'.out.c i hiT
      rw [List.getElem_map] at q1 q2
      have HP := hide (fun V => event_true V T[i])
      generalize T[i] = d at *
      obtain ⟨dk, dn, dl, djo, dba, dix, dco, drc, drb, dtx⟩ := d
      have HP2 : Hid (∀ V, Calls Tryz.prog 41 #[.agg #[.int .i64 dk, .int .i64 0, .int .i64 dn, .int .i64 dl, .int .i64 djo, .int .i64 dba, .int .i64 dix, .int .i64 dco, .int .i64 0, .int .i64 drc, .int .u64 (drb : Int), .string dtx, .slice none 0 0], .agg #[.int .i64 dk, .int .i64 0, .int .i64 dn, .int .i64 dl, .int .i64 djo, .int .i64 dba, .int .i64 dix, .int .i64 dco, .int .i64 0, .int .i64 drc, .int .u64 (drb : Int), .string dtx, .slice none 0 0]] V fun e w' => e = .returned (.bool true) ∧ Below V.heap.size V w') := HP
      have a0 : w.cell? ⟨g1, i * 13, none⟩ = some (.int .i64 dk) := q1 0 _ rfl
      have a1 : w.cell? ⟨g1, i * 13 + 1, none⟩ = some (.int .i64 0) := q1 1 _ rfl
      have a2 : w.cell? ⟨g1, i * 13 + 2, none⟩ = some (.int .i64 dn) := q1 2 _ rfl
      have a3 : w.cell? ⟨g1, i * 13 + 3, none⟩ = some (.int .i64 dl) := q1 3 _ rfl
      have a4 : w.cell? ⟨g1, i * 13 + 4, none⟩ = some (.int .i64 djo) := q1 4 _ rfl
      have a5 : w.cell? ⟨g1, i * 13 + 5, none⟩ = some (.int .i64 dba) := q1 5 _ rfl
      have a6 : w.cell? ⟨g1, i * 13 + 6, none⟩ = some (.int .i64 dix) := q1 6 _ rfl
      have a7 : w.cell? ⟨g1, i * 13 + 7, none⟩ = some (.int .i64 dco) := q1 7 _ rfl
      have a8 : w.cell? ⟨g1, i * 13 + 8, none⟩ = some (.int .i64 0) := q1 8 _ rfl
      have a9 : w.cell? ⟨g1, i * 13 + 9, none⟩ = some (.int .i64 drc) := q1 9 _ rfl
      have a10 : w.cell? ⟨g1, i * 13 + 10, none⟩ = some (.int .u64 (drb : Int)) := q1 10 _ rfl
      have a11 : w.cell? ⟨g1, i * 13 + 11, none⟩ = some (.string dtx) := q1 11 _ rfl
      have a12 : w.cell? ⟨g1, i * 13 + 12, none⟩ = some (.slice none 0 0) := q1 12 _ rfl
      have b0 : w.cell? ⟨g2, i * 13, none⟩ = some (.int .i64 dk) := q2 0 _ rfl
      have b1 : w.cell? ⟨g2, i * 13 + 1, none⟩ = some (.int .i64 0) := q2 1 _ rfl
      have b2 : w.cell? ⟨g2, i * 13 + 2, none⟩ = some (.int .i64 dn) := q2 2 _ rfl
      have b3 : w.cell? ⟨g2, i * 13 + 3, none⟩ = some (.int .i64 dl) := q2 3 _ rfl
      have b4 : w.cell? ⟨g2, i * 13 + 4, none⟩ = some (.int .i64 djo) := q2 4 _ rfl
      have b5 : w.cell? ⟨g2, i * 13 + 5, none⟩ = some (.int .i64 dba) := q2 5 _ rfl
      have b6 : w.cell? ⟨g2, i * 13 + 6, none⟩ = some (.int .i64 dix) := q2 6 _ rfl
      have b7 : w.cell? ⟨g2, i * 13 + 7, none⟩ = some (.int .i64 dco) := q2 7 _ rfl
      have b8 : w.cell? ⟨g2, i * 13 + 8, none⟩ = some (.int .i64 0) := q2 8 _ rfl
      have b9 : w.cell? ⟨g2, i * 13 + 9, none⟩ = some (.int .i64 drc) := q2 9 _ rfl
      have b10 : w.cell? ⟨g2, i * 13 + 10, none⟩ = some (.int .u64 (drb : Int)) := q2 10 _ rfl
      have b11 : w.cell? ⟨g2, i * 13 + 11, none⟩ = some (.string dtx) := q2 11 _ rfl
      have b12 : w.cell? ⟨g2, i * 13 + 12, none⟩ = some (.slice none 0 0) := q2 12 _ rfl
      have hg1 : g1 < w.heap.size := cell_lt a0
      have hg2 : g2 < w.heap.size := cell_lt b0
      have hii : (i : Int) < (N : Int) := by omega
      subst ea; subst ea'
      have HCe : Hid (∀ w' : World, (fun w' => Below w.heap.size w w') w' → w'.cell? ⟨g1, i * 13, none⟩ = some (.int .i64 dk) ∧ w'.cell? ⟨g1, i * 13 + 1, none⟩ = some (.int .i64 0) ∧ w'.cell? ⟨g1, i * 13 + 2, none⟩ = some (.int .i64 dn) ∧ w'.cell? ⟨g1, i * 13 + 3, none⟩ = some (.int .i64 dl) ∧ w'.cell? ⟨g1, i * 13 + 4, none⟩ = some (.int .i64 djo) ∧ w'.cell? ⟨g1, i * 13 + 5, none⟩ = some (.int .i64 dba) ∧ w'.cell? ⟨g1, i * 13 + 6, none⟩ = some (.int .i64 dix) ∧ w'.cell? ⟨g1, i * 13 + 7, none⟩ = some (.int .i64 dco) ∧ w'.cell? ⟨g1, i * 13 + 8, none⟩ = some (.int .i64 0) ∧ w'.cell? ⟨g1, i * 13 + 9, none⟩ = some (.int .i64 drc) ∧ w'.cell? ⟨g1, i * 13 + 10, none⟩ = some (.int .u64 (drb : Int)) ∧ w'.cell? ⟨g1, i * 13 + 11, none⟩ = some (.string dtx) ∧ w'.cell? ⟨g1, i * 13 + 12, none⟩ = some (.slice none 0 0) ∧ w'.cell? ⟨g2, i * 13, none⟩ = some (.int .i64 dk) ∧ w'.cell? ⟨g2, i * 13 + 1, none⟩ = some (.int .i64 0) ∧ w'.cell? ⟨g2, i * 13 + 2, none⟩ = some (.int .i64 dn) ∧ w'.cell? ⟨g2, i * 13 + 3, none⟩ = some (.int .i64 dl) ∧ w'.cell? ⟨g2, i * 13 + 4, none⟩ = some (.int .i64 djo) ∧ w'.cell? ⟨g2, i * 13 + 5, none⟩ = some (.int .i64 dba) ∧ w'.cell? ⟨g2, i * 13 + 6, none⟩ = some (.int .i64 dix) ∧ w'.cell? ⟨g2, i * 13 + 7, none⟩ = some (.int .i64 dco) ∧ w'.cell? ⟨g2, i * 13 + 8, none⟩ = some (.int .i64 0) ∧ w'.cell? ⟨g2, i * 13 + 9, none⟩ = some (.int .i64 drc) ∧ w'.cell? ⟨g2, i * 13 + 10, none⟩ = some (.int .u64 (drb : Int)) ∧ w'.cell? ⟨g2, i * 13 + 11, none⟩ = some (.string dtx) ∧ w'.cell? ⟨g2, i * 13 + 12, none⟩ = some (.slice none 0 0)) := hide fun w' hw => ⟨(hw.cell (p := ⟨g1, i * 13, none⟩) hg1).trans a0, (hw.cell (p := ⟨g1, i * 13 + 1, none⟩) hg1).trans a1, (hw.cell (p := ⟨g1, i * 13 + 2, none⟩) hg1).trans a2, (hw.cell (p := ⟨g1, i * 13 + 3, none⟩) hg1).trans a3, (hw.cell (p := ⟨g1, i * 13 + 4, none⟩) hg1).trans a4, (hw.cell (p := ⟨g1, i * 13 + 5, none⟩) hg1).trans a5, (hw.cell (p := ⟨g1, i * 13 + 6, none⟩) hg1).trans a6, (hw.cell (p := ⟨g1, i * 13 + 7, none⟩) hg1).trans a7, (hw.cell (p := ⟨g1, i * 13 + 8, none⟩) hg1).trans a8, (hw.cell (p := ⟨g1, i * 13 + 9, none⟩) hg1).trans a9, (hw.cell (p := ⟨g1, i * 13 + 10, none⟩) hg1).trans a10, (hw.cell (p := ⟨g1, i * 13 + 11, none⟩) hg1).trans a11, (hw.cell (p := ⟨g1, i * 13 + 12, none⟩) hg1).trans a12, (hw.cell (p := ⟨g2, i * 13, none⟩) hg2).trans b0, (hw.cell (p := ⟨g2, i * 13 + 1, none⟩) hg2).trans b1, (hw.cell (p := ⟨g2, i * 13 + 2, none⟩) hg2).trans b2, (hw.cell (p := ⟨g2, i * 13 + 3, none⟩) hg2).trans b3, (hw.cell (p := ⟨g2, i * 13 + 4, none⟩) hg2).trans b4, (hw.cell (p := ⟨g2, i * 13 + 5, none⟩) hg2).trans b5, (hw.cell (p := ⟨g2, i * 13 + 6, none⟩) hg2).trans b6, (hw.cell (p := ⟨g2, i * 13 + 7, none⟩) hg2).trans b7, (hw.cell (p := ⟨g2, i * 13 + 8, none⟩) hg2).trans b8, (hw.cell (p := ⟨g2, i * 13 + 9, none⟩) hg2).trans b9, (hw.cell (p := ⟨g2, i * 13 + 10, none⟩) hg2).trans b10, (hw.cell (p := ⟨g2, i * 13 + 11, none⟩) hg2).trans b11, (hw.cell (p := ⟨g2, i * 13 + 12, none⟩) hg2).trans b12⟩
      clear a0 a1 a2 a3 a4 a5 a6 a7 a8 a9 a10 a11 a12 b0 b1 b2 b3 b4 b5 b6 b7 b8 b9 b10 b11 b12 HE HE' q1 q2 HP
      go_upto_region 6 with fail
      refine wp_region_held_drew (S := fun w' => Below w.heap.size w w') (by kernel_rfl) (CH.below_drew HBr.out) (fun hHeld => ?_)
      refine wpAnyH_take (i := 0) (v := .slice (some ⟨g1, 0, none⟩) N k1) rfl (by kernel_rfl) (by kernel_rfl) (by kernel_rfl) (fun _ _ _ h => h) (Or.inl ⟨by kernel_rfl, fun w1 hSw => by clear hHeld; obtain ⟨f0, f1, f2, f3, f4, f5, f6, f7, f8, f9, f10, f11, f12, f13, f14, f15, f16, f17, f18, f19, f20, f21, f22, f23, f24, f25⟩ := HCe.out _ hSw; go_simp⟩) hHeld ?_
      try simp only [Act.put]
      try simp only [List.getElem_toArray]
      try simp only [List.getElem_cons_succ]
      try simp only [List.getElem_cons_zero]
      try simp only [List.setIfInBounds_toArray]
      try simp only [List.set_cons_succ, List.set_cons_zero]
      refine wpAnyH_take (i := 1) (v := .int .i64 (i : Int)) rfl (by kernel_rfl) (by kernel_rfl) (by kernel_rfl) (fun _ _ _ h => h) (Or.inl ⟨by kernel_rfl, fun w1 hSw => by clear hHeld; obtain ⟨f0, f1, f2, f3, f4, f5, f6, f7, f8, f9, f10, f11, f12, f13, f14, f15, f16, f17, f18, f19, f20, f21, f22, f23, f24, f25⟩ := HCe.out _ hSw; go_simp⟩) hHeld ?_
      try simp only [Act.put]
      try simp only [List.getElem_toArray]
      try simp only [List.getElem_cons_succ]
      try simp only [List.getElem_cons_zero]
      try simp only [List.setIfInBounds_toArray]
      try simp only [List.set_cons_succ, List.set_cons_zero]
      refine wpAnyH_take (i := 2) (v := .pointer (some ⟨g1, i * 13, none⟩)) rfl (by kernel_rfl) (by kernel_rfl) (by kernel_rfl) (fun _ _ _ h => h) (Or.inl ⟨by kernel_rfl, fun w1 hSw => by clear hHeld; obtain ⟨f0, f1, f2, f3, f4, f5, f6, f7, f8, f9, f10, f11, f12, f13, f14, f15, f16, f17, f18, f19, f20, f21, f22, f23, f24, f25⟩ := HCe.out _ hSw; go_simp⟩) hHeld ?_
      try simp only [Act.put]
      try simp only [List.getElem_toArray]
      try simp only [List.getElem_cons_succ]
      try simp only [List.getElem_cons_zero]
      try simp only [List.setIfInBounds_toArray]
      try simp only [List.set_cons_succ, List.set_cons_zero]
      refine wpAnyH_take (i := 3) (v := .agg #[.int .i64 dk, .int .i64 0, .int .i64 dn, .int .i64 dl, .int .i64 djo, .int .i64 dba, .int .i64 dix, .int .i64 dco, .int .i64 0, .int .i64 drc, .int .u64 (drb : Int), .string dtx, .slice none 0 0]) rfl (by kernel_rfl) (by kernel_rfl) (by kernel_rfl) (fun _ _ _ h => h) (Or.inl ⟨by kernel_rfl, fun w1 hSw => by clear hHeld; obtain ⟨f0, f1, f2, f3, f4, f5, f6, f7, f8, f9, f10, f11, f12, f13, f14, f15, f16, f17, f18, f19, f20, f21, f22, f23, f24, f25⟩ := HCe.out _ hSw; go_simp⟩) hHeld ?_
      try simp only [Act.put]
      try simp only [List.getElem_toArray]
      try simp only [List.getElem_cons_succ]
      try simp only [List.getElem_cons_zero]
      try simp only [List.setIfInBounds_toArray]
      try simp only [List.set_cons_succ, List.set_cons_zero]
      refine wpAnyH_take (i := 4) (v := .slice (some ⟨g2, 0, none⟩) N k2) rfl (by kernel_rfl) (by kernel_rfl) (by kernel_rfl) (fun _ _ _ h => h) (Or.inl ⟨by kernel_rfl, fun w1 hSw => by clear hHeld; obtain ⟨f0, f1, f2, f3, f4, f5, f6, f7, f8, f9, f10, f11, f12, f13, f14, f15, f16, f17, f18, f19, f20, f21, f22, f23, f24, f25⟩ := HCe.out _ hSw; go_simp⟩) hHeld ?_
      try simp only [Act.put]
      try simp only [List.getElem_toArray]
      try simp only [List.getElem_cons_succ]
      try simp only [List.getElem_cons_zero]
      try simp only [List.setIfInBounds_toArray]
      try simp only [List.set_cons_succ, List.set_cons_zero]
      refine wpAnyH_take (i := 5) (v := .int .i64 (i : Int)) rfl (by kernel_rfl) (by kernel_rfl) (by kernel_rfl) (fun _ _ _ h => h) (Or.inl ⟨by kernel_rfl, fun w1 hSw => by clear hHeld; obtain ⟨f0, f1, f2, f3, f4, f5, f6, f7, f8, f9, f10, f11, f12, f13, f14, f15, f16, f17, f18, f19, f20, f21, f22, f23, f24, f25⟩ := HCe.out _ hSw; go_simp⟩) hHeld ?_
      try simp only [Act.put]
      try simp only [List.getElem_toArray]
      try simp only [List.getElem_cons_succ]
      try simp only [List.getElem_cons_zero]
      try simp only [List.setIfInBounds_toArray]
      try simp only [List.set_cons_succ, List.set_cons_zero]
      refine wpAnyH_take (i := 6) (v := .pointer (some ⟨g2, i * 13, none⟩)) rfl (by kernel_rfl) (by kernel_rfl) (by kernel_rfl) (fun _ _ _ h => h) (Or.inl ⟨by kernel_rfl, fun w1 hSw => by clear hHeld; obtain ⟨f0, f1, f2, f3, f4, f5, f6, f7, f8, f9, f10, f11, f12, f13, f14, f15, f16, f17, f18, f19, f20, f21, f22, f23, f24, f25⟩ := HCe.out _ hSw; go_simp⟩) hHeld ?_
      try simp only [Act.put]
      try simp only [List.getElem_toArray]
      try simp only [List.getElem_cons_succ]
      try simp only [List.getElem_cons_zero]
      try simp only [List.setIfInBounds_toArray]
      try simp only [List.set_cons_succ, List.set_cons_zero]
      refine wpAnyH_take (i := 7) (v := .agg #[.int .i64 dk, .int .i64 0, .int .i64 dn, .int .i64 dl, .int .i64 djo, .int .i64 dba, .int .i64 dix, .int .i64 dco, .int .i64 0, .int .i64 drc, .int .u64 (drb : Int), .string dtx, .slice none 0 0]) rfl (by kernel_rfl) (by kernel_rfl) (by kernel_rfl) (fun _ _ _ h => h) (Or.inl ⟨by kernel_rfl, fun w1 hSw => by clear hHeld; obtain ⟨f0, f1, f2, f3, f4, f5, f6, f7, f8, f9, f10, f11, f12, f13, f14, f15, f16, f17, f18, f19, f20, f21, f22, f23, f24, f25⟩ := HCe.out _ hSw; go_simp⟩) hHeld ?_
      try simp only [Act.put]
      try simp only [List.getElem_toArray]
      try simp only [List.getElem_cons_succ]
      try simp only [List.getElem_cons_zero]
      try simp only [List.setIfInBounds_toArray]
      try simp only [List.set_cons_succ, List.set_cons_zero]
      refine wpAnyH_ready (rs := [8]) (by kernel_rfl) (by simp) ?_
      refine AllReadyH.cons rfl (fun K hK => ?_) AllReadyH.nil
      go_simp
      refine (HP2.out _).mono ?_
      rintro e V1 ⟨rfl, hb⟩
      have HS1 := hide (hHeld.trans (hb.mono hHeld.size))
      clear hb
      refine hK.out _ _ (HS1.out) (fun hHeld => ?_)
      clear hK K
      try simp only [Act.put]
      try simp only [List.getElem_toArray]
      try simp only [List.getElem_cons_succ]
      try simp only [List.getElem_cons_zero]
      try simp only [List.setIfInBounds_toArray]
      try simp only [List.set_cons_succ, List.set_cons_zero]
      refine wpAnyH_take (i := 9) (v := .bool false) rfl (by kernel_rfl) (by kernel_rfl) (by kernel_rfl) (fun _ _ _ h => h) (Or.inl ⟨by kernel_rfl, fun w1 hSw => by clear hHeld; obtain ⟨f0, f1, f2, f3, f4, f5, f6, f7, f8, f9, f10, f11, f12, f13, f14, f15, f16, f17, f18, f19, f20, f21, f22, f23, f24, f25⟩ := HCe.out _ hSw; go_simp⟩) hHeld ?_
      try simp only [Act.put]
      try simp only [List.getElem_toArray]
      try simp only [List.getElem_cons_succ]
      try simp only [List.getElem_cons_zero]
      try simp only [List.setIfInBounds_toArray]
      try simp only [List.set_cons_succ, List.set_cons_zero]
      refine wpAnyH_done (by kernel_rfl) ?_ _
      have HBf := HS1
      clear HS1 hHeld HP2 HCe HBr
      go_wp2_with fail
      go_roundw
      case rel => exact ⟨i + 1, by go_num, by omega, HBf⟩
      case measure => simp only [intOf]; omega
    · obtain rfl : i = N := by omega
      have hii : ¬ ((i : Int) < (i : Int)) := by omega
      clear HE HE'
      go_wp2_with fail
      go_ret
      exact ⟨rfl, HBr.out⟩
set_option maxHeartbeats 8000000 in
theorem said_true {w : World} {ad ad' : Option Addr} {g1 g2 k1 k2 N : Nat} {T : List Dg} (hN : T.length = N) (h : Er w ad g1 6 (T.map Dg.cs)) (h' : Er w ad' g2 6 (T.map Dg.cs)) (hl : N ≤ 1000000000) :
    Calls Tryz.prog 18 #[.slice ad N k1, .slice ad' N k2] w fun e w' => e = .returned (.bool true) ∧ Below w.heap.size w w' := by
  have HE := hide h
  have HE' := hide h'
  have HN := hide hN
  clear h h' hN
  go_enter Tryz.func18, Tryz.ntmps18
  go_wp2_with fail
  go_loopw [5] (fun u wr => ∃ i n : Nat, u = .int .i64 (i : Int) ∧ i ≤ N ∧ wr = w.drewN n) (fun u _ => (N - (intOf u).toNat))
  case atStart => exact ⟨0, 0, rfl, Nat.zero_le _, rfl⟩
  case round =>
    obtain ⟨i, n, rfl, hi, rfl⟩ := hrel
    by_cases hil : i < N
    · have hiT : i < (T.map Dg.cs).length := by have := HN.out; simp; omega
      have hiT2 : i < T.length := by have := HN.out; omega
      have ea := HE.out.at_ (by omega)
      have ea' := HE'.out.at_ (by omega)
      have q1 := HE.out.c i hiT
      have q2 := HE'.out.c i hiT
      rw [List.getElem_map] at q1 q2
      generalize T[i] = d at *
      obtain ⟨dn, dl, dtn, ddt⟩ := d
      have a0 : w.cell? ⟨g1, i * 6, none⟩ = some (.int .i64 0) := q1 0 _ rfl
      have a1 : w.cell? ⟨g1, i * 6 + 1, none⟩ = some (.int .i64 dn) := q1 1 _ rfl
      have a2 : w.cell? ⟨g1, i * 6 + 2, none⟩ = some (.int .i64 dl) := q1 2 _ rfl
      have a3 : w.cell? ⟨g1, i * 6 + 3, none⟩ = some (.int .i64 dtn) := q1 3 _ rfl
      have a4 : w.cell? ⟨g1, i * 6 + 4, none⟩ = some (.int .i64 0) := q1 4 _ rfl
      have a5 : w.cell? ⟨g1, i * 6 + 5, none⟩ = some (.string ddt) := q1 5 _ rfl
      have b0 : w.cell? ⟨g2, i * 6, none⟩ = some (.int .i64 0) := q2 0 _ rfl
      have b1 : w.cell? ⟨g2, i * 6 + 1, none⟩ = some (.int .i64 dn) := q2 1 _ rfl
      have b2 : w.cell? ⟨g2, i * 6 + 2, none⟩ = some (.int .i64 dl) := q2 2 _ rfl
      have b3 : w.cell? ⟨g2, i * 6 + 3, none⟩ = some (.int .i64 dtn) := q2 3 _ rfl
      have b4 : w.cell? ⟨g2, i * 6 + 4, none⟩ = some (.int .i64 0) := q2 4 _ rfl
      have b5 : w.cell? ⟨g2, i * 6 + 5, none⟩ = some (.string ddt) := q2 5 _ rfl
      have hii : (i : Int) < (N : Int) := by omega
      subst ea; subst ea'
      clear HE HE' q1 q2
      go_wp2_with fail
      go_quiet (fail)
      go_wp2_with fail
      go_roundw
      case rel => exact ⟨i + 1, _, by go_num, by omega, rfl⟩
      case measure => simp only [intOf]; omega
    · obtain rfl : i = N := by omega
      have hii : ¬ ((i : Int) < (i : Int)) := by omega
      clear HE HE'
      go_wp2_with fail
      go_ret
      exact ⟨rfl, CH.below_drewN (Below.refl _ w) n⟩
end Go.Proofs.YtkfnedhllfdghaaGreatDoor.RN
end

section
namespace Go.Proofs.YtkfnedhllfdghaaGreatDoor.RN
open Go.RowKit Go.Shelf
set_option maxRecDepth 20000

def rA : Rn := newR 0 1 2 2 8
def dA : Dg := ⟨2, 1, 0, ⟨#[1]⟩⟩
def rB : Rn := rA.stp
def rC : Rn := rB.stp.tick.tick
def rD : Rn := rC.stp
theorem encHello : W.encB (msOf (SE.zS 1)) = ⟨#[1]⟩ := by
  unfold W.encB
  rw [if_pos (by decide)]
  simp [W.Wr.bytes, W.Wr.body, W.Wr.letters, msOf, SE.zS, Pk.enc_lt]
theorem outA : rA.out = [dA] := by
  have h1 : rA.out2 = [rA.dg 0 (msOf (SE.zS 1))] := rfl
  unfold Rn.out
  rw [h1]
  unfold Rn.dg
  rw [encHello]
  rfl
theorem outB : rB.out = [] := rfl
theorem outC : rC.out = [dA] := by
  have h1 : rC.out2 = [rC.dg 0 (msOf (SE.zS 1))] := rfl
  unfold Rn.out
  rw [h1]
  unfold Rn.dg
  rw [encHello]
  rfl
theorem lookD : rD.look = #[.int .i64 0, .int .i64 1, .int .i64 0, .int .i64 0, .bool true, .int .i64 2, .int .i64 0, .int .i64 0, .int .i64 0, .bool false, .int .i64 0, .int .u64 0, .int .i64 0, .int .i64 0, .int .i64 0, .int .i64 0, .int .i64 0, .int .i64 0, .int .i64 0, .int .i64 0] := rfl
theorem okA : rA.ok := newR_ok (g0 := 1) (g2 := 2) (g4 := 2) (g5 := 8) (sl := 0) (li := 1) (by unfold newOk; decide)
theorem Rn.tick_ok {r : Rn} (h : r.ok) : r.tick.ok := by
  refine ⟨h.s8, h.l1, h.w1, h.w8, h.r1, h.r2, h.q1, h.q2, SE.Cl.tick_ok h.c, (by have := h.cb; show r.c.tick.m.rb < _; unfold SE.Cl.tick; split <;> exact this), fun k hk => ?_⟩
  have hk : r.j.map (fun j => { j with lg := j.lg.tick, ar := j.ar.tick }) = some k := hk
  rw [Option.map_eq_some_iff] at hk
  obtain ⟨j, hj, rfl⟩ := hk
  have := h.j j hj
  exact ⟨this.p, this.m, CH.Sn.tick_ok this.lg, CH.Sn.tick_ok this.ar⟩
theorem own_le {w : World} {B n sz : Nat} {t : TypeId} {v : Value} {xs : List Value} (h : w.ownsRow B t sz v n xs) : n ≤ 9223372036854775807 := by
  rcases h.2 with ⟨_, h0⟩ | ⟨g, cap, cur, _, _, _, h1, h2, _⟩
  · omega
  · unfold maxLen at h2; omega
set_option maxHeartbeats 16000000 in
theorem awake_r (w : World) (ht : Tbs w) : Calls Tryz.prog 9 #[] w fun e w' => e = .returned (.bool true) ∧ Below w.heap.size w w' := by
  have HN1 : Hid (∀ V, Tbs V → Calls Tryz.prog 7 #[.agg #[.int .i64 1, .int .i64 0, .int .i64 2, .int .i64 0, .int .i64 2, .int .i64 8, .int .i64 0, .int .i64 0, .int .i64 0], .int .i64 0, .int .i64 1] V fun e w' => ∃ a, e = .returned (.tuple #[.pointer (some ⟨a.R, 0, none⟩), .int .i64 0]) ∧ NR V a rA w') := hide fun V hV =>
    (rnew_any V hV (g0 := 1) (g1 := 0) (g2 := 2) (g3 := 0) (g4 := 2) (g5 := 8) (g6 := 0) (g7 := 0) (g8 := 0) (sl := 0) (li := 1) (by decide) (by decide)).mono (by
      rintro e w' (⟨_, h⟩ | ⟨h, _⟩)
      · exact h
      · exact absurd (by unfold newOk; decide) h)
  have HN2 : Hid (∀ V, Tbs V → Calls Tryz.prog 7 #[.agg #[.int .i64 1, .int .i64 0, .int .i64 2, .int .i64 0, .int .i64 2, .int .i64 8, .int .i64 0, .int .i64 0, .int .i64 0], .int .i64 1, .int .i64 1] V fun e w' => e = .returned (.tuple #[.pointer none, .int .i64 190]) ∧ Below V.heap.size V w') := hide fun V hV =>
    (rnew_any V hV (g0 := 1) (g1 := 0) (g2 := 2) (g3 := 0) (g4 := 2) (g5 := 8) (g6 := 0) (g7 := 0) (g8 := 0) (sl := 1) (li := 1) (by decide) (by decide)).mono (by
      rintro e w' (⟨h, _⟩ | ⟨_, h⟩)
      · exact absurd h (by unfold newOk; decide)
      · exact h)
  have hb0 := CH.below_alloc w (.cells #[.int .i64 1, .int .i64 0, .int .i64 2, .int .i64 0, .int .i64 2, .int .i64 8, .int .i64 0, .int .i64 0, .int .i64 0] 23)
  have HB0 := hide hb0
  have HT0 : Hid (Tbs (w.alloc (.cells #[.int .i64 1, .int .i64 0, .int .i64 2, .int .i64 0, .int .i64 2, .int .i64 8, .int .i64 0, .int .i64 0, .int .i64 0] 23))) := hide (Tbs_kp (G := fun _ _ => False) ht (Kp.of_below hb0) (fun _ h => h) (fun _ h => h))
  have HX0 := hide (heap_alloc_new w (.cells #[.int .i64 1, .int .i64 0, .int .i64 2, .int .i64 0, .int .i64 2, .int .i64 8, .int .i64 0, .int .i64 0, .int .i64 0] 23))
  clear ht hb0
  go_enter Tryz.func9, Tryz.ntmps9
  go_wp2_with fail
  refine (HN1.out _ HT0.out).mono ?_
  rintro e w1 ⟨a, rfl, hnr⟩
  have HR1 := hide hnr.rm
  have HB1 := hide (HB0.out.trans (hnr.bl.mono HB0.out.size))
  have hX1 := (hnr.bl.block _ (lt_of_block HX0.out)).trans HX0.out
  have x0 := cell_of (i := 0) hX1 rfl
  have x1 := cell_of (i := 1) hX1 rfl
  have x2 := cell_of (i := 2) hX1 rfl
  have x3 := cell_of (i := 3) hX1 rfl
  have x4 := cell_of (i := 4) hX1 rfl
  have x5 := cell_of (i := 5) hX1 rfl
  have x6 := cell_of (i := 6) hX1 rfl
  have x7 := cell_of (i := 7) hX1 rfl
  have x8 := cell_of (i := 8) hX1 rfl
  have hg1 : ∀ x i, a.g rA x i → w.heap.size ≤ x := fun x i hx => Nat.le_trans HB0.out.size (hnr.g x i hx)
  have HG1 := hide hg1
  clear hnr HB0 HT0 HN1 hg1 HX0 hX1
  go_wp2_with fail
  refine (HN2.out _ HR1.out.tb).mono ?_
  rintro e w2 ⟨rfl, hb2⟩
  have HR2 := hide (HR1.out.below hb2)
  have HB2 := hide (HB1.out.trans (hb2.mono HB1.out.size))
  clear hb2 HN2 HR1 HB1 x0 x1 x2 x3 x4 x5 x6 x7 x8
  have hS := step_any HR2.out okA (by decide)
  rw [outA] at hS
  have HS := hide hS
  clear hS
  go_wp2_with fail
  refine HS.out.mono ?_
  rintro e w3 ⟨v0, a3, rfl, ho, hs⟩
  have HP3 : Hid (Sp w2 a a3 rA rB v0 [dA] w3) := hide ⟨hs, ho⟩
  obtain ⟨g1, k1, _, hv0, _, _⟩ := CH.own_form ho (by decide)
  have hv0 : v0 = .slice (some ⟨g1, 0, none⟩) 1 k1 := hv0
  subst hv0
  clear ho hs HS
  have hS := step_any HP3.out.st.rm (Rn.stp_ok okA) (by decide)
  rw [show Rn.out rB = [] from outB, HP3.out.st.R] at hS
  have HS := hide hS
  clear hS
  go_wp2_with fail
  refine HS.out.mono ?_
  rintro e w4 ⟨v1, a4, rfl, ho, hs⟩
  obtain ⟨ad1, k2, hv1⟩ := CH.own_slice ho
  have hv1 : v1 = .slice ad1 0 k2 := hv1
  subst hv1
  have HP4 := hide (HP3.out.call hs)
  clear ho hs HS HP3
  have HS := hide (rtick_any HP4.out.st.rm (Rn.stp_ok (Rn.stp_ok okA)))
  rw [HP4.out.st.R] at HS
  go_wp2_with fail
  refine HS.out.mono ?_
  rintro e w5 ⟨rfl, hs⟩
  have HP5 := hide (HP4.out.call hs)
  clear hs HS HP4
  have HS := hide (rtick_any HP5.out.st.rm (Rn.tick_ok (Rn.stp_ok (Rn.stp_ok okA))))
  rw [HP5.out.st.R] at HS
  go_wp2_with fail
  refine HS.out.mono ?_
  rintro e w6 ⟨rfl, hs⟩
  have HP6 := hide (HP5.out.call hs)
  clear hs HS HP5
  have hS := step_any HP6.out.st.rm (Rn.tick_ok (Rn.tick_ok (Rn.stp_ok (Rn.stp_ok okA)))) (by decide)
  rw [show Rn.out rB.stp.tick.tick = [dA] from outC, HP6.out.st.R] at hS
  have HS := hide hS
  clear hS
  go_wp2_with fail
  refine HS.out.mono ?_
  rintro e w7 ⟨v2, a7, rfl, ho, hs⟩
  obtain ⟨g2, k3, _, hv2, _, _⟩ := CH.own_form ho (by decide)
  have hv2 : v2 = .slice (some ⟨g2, 0, none⟩) 1 k3 := hv2
  subst hv2
  have HP7 := hide (HP6.out.call hs)
  have q1 := HP7.out.ow.cells (g := g1) rfl
  have q2 := ho.cells (g := g2) rfl
  have a0 : w7.cell? ⟨g1, 0, none⟩ = some (.int .i64 0) := by have h := q1 0 _ rfl; rw [Addr.add_lit, Nat.zero_add] at h; exact h
  have a1 : w7.cell? ⟨g1, 1, none⟩ = some (.int .i64 2) := by have h := q1 1 _ rfl; rw [Addr.add_lit, Nat.zero_add] at h; exact h
  have a2 : w7.cell? ⟨g1, 2, none⟩ = some (.int .i64 1) := by have h := q1 2 _ rfl; rw [Addr.add_lit, Nat.zero_add] at h; exact h
  have a3 : w7.cell? ⟨g1, 3, none⟩ = some (.int .i64 0) := by have h := q1 3 _ rfl; rw [Addr.add_lit, Nat.zero_add] at h; exact h
  have a4 : w7.cell? ⟨g1, 4, none⟩ = some (.int .i64 0) := by have h := q1 4 _ rfl; rw [Addr.add_lit, Nat.zero_add] at h; exact h
  have a5 : w7.cell? ⟨g1, 5, none⟩ = some (.string ⟨#[1]⟩) := by have h := q1 5 _ rfl; rw [Addr.add_lit, Nat.zero_add] at h; exact h
  have b0 : w7.cell? ⟨g2, 0, none⟩ = some (.int .i64 0) := by have h := q2 0 _ rfl; rw [Addr.add_lit, Nat.zero_add] at h; exact h
  have b1 : w7.cell? ⟨g2, 1, none⟩ = some (.int .i64 2) := by have h := q2 1 _ rfl; rw [Addr.add_lit, Nat.zero_add] at h; exact h
  have b2 : w7.cell? ⟨g2, 2, none⟩ = some (.int .i64 1) := by have h := q2 2 _ rfl; rw [Addr.add_lit, Nat.zero_add] at h; exact h
  have b3 : w7.cell? ⟨g2, 3, none⟩ = some (.int .i64 0) := by have h := q2 3 _ rfl; rw [Addr.add_lit, Nat.zero_add] at h; exact h
  have b4 : w7.cell? ⟨g2, 4, none⟩ = some (.int .i64 0) := by have h := q2 4 _ rfl; rw [Addr.add_lit, Nat.zero_add] at h; exact h
  have b5 : w7.cell? ⟨g2, 5, none⟩ = some (.string ⟨#[1]⟩) := by have h := q2 5 _ rfl; rw [Addr.add_lit, Nat.zero_add] at h; exact h
  clear ho HS HP6 q1 q2
  have HBf : Hid (Below w.heap.size w w7) := hide (Kp.bel HB2.out HP7.out.st.kp HG1.out)
  have HLk := hide (fun (V : World) (hV : Below w7.heap.size w7 V) => look_any (HP7.out.st.rm.below hV) (Rn.stp_ok (Rn.tick_ok (Rn.tick_ok (Rn.stp_ok (Rn.stp_ok okA))))))
  rw [show Rn.look rB.stp.tick.tick.stp = #[.int .i64 0, .int .i64 1, .int .i64 0, .int .i64 0, .bool true, .int .i64 2, .int .i64 0, .int .i64 0, .int .i64 0, .bool false, .int .i64 0, .int .u64 0, .int .i64 0, .int .i64 0, .int .i64 0, .int .i64 0, .int .i64 0, .int .i64 0, .int .i64 0, .int .i64 0] from lookD, HP7.out.st.R] at HLk
  have hf4 : ∀ V : World, (Instr.field 48 (.agg #[.int .i64 0, .int .i64 1, .int .i64 0, .int .i64 0, .bool true, .int .i64 2, .int .i64 0, .int .i64 0, .int .i64 0, .bool false, .int .i64 0, .int .u64 0, .int .i64 0, .int .i64 0, .int .i64 0, .int .i64 0, .int .i64 0, .int .i64 0, .int .i64 0, .int .i64 0]) 4).run Tryz.prog V = .ok (.bool true) V := fun _ => by kernel_rfl
  have hf1 : ∀ V : World, (Instr.field 48 (.agg #[.int .i64 0, .int .i64 1, .int .i64 0, .int .i64 0, .bool true, .int .i64 2, .int .i64 0, .int .i64 0, .int .i64 0, .bool false, .int .i64 0, .int .u64 0, .int .i64 0, .int .i64 0, .int .i64 0, .int .i64 0, .int .i64 0, .int .i64 0, .int .i64 0, .int .i64 0]) 1).run Tryz.prog V = .ok (.int .i64 1) V := fun _ => by kernel_rfl
  have hg1 : g1 < w7.heap.size := cell_lt a0
  have hg2 : g2 < w7.heap.size := cell_lt b0
  have HCe : Hid (∀ V : World, Below w7.heap.size w7 V → V.cell? ⟨g1, 0, none⟩ = some (.int .i64 0) ∧ V.cell? ⟨g1, 1, none⟩ = some (.int .i64 2) ∧ V.cell? ⟨g1, 2, none⟩ = some (.int .i64 1) ∧ V.cell? ⟨g1, 3, none⟩ = some (.int .i64 0) ∧ V.cell? ⟨g1, 4, none⟩ = some (.int .i64 0) ∧ V.cell? ⟨g1, 5, none⟩ = some (.string ⟨#[1]⟩) ∧ V.cell? ⟨g2, 0, none⟩ = some (.int .i64 0) ∧ V.cell? ⟨g2, 1, none⟩ = some (.int .i64 2) ∧ V.cell? ⟨g2, 2, none⟩ = some (.int .i64 1) ∧ V.cell? ⟨g2, 3, none⟩ = some (.int .i64 0) ∧ V.cell? ⟨g2, 4, none⟩ = some (.int .i64 0) ∧ V.cell? ⟨g2, 5, none⟩ = some (.string ⟨#[1]⟩)) := hide fun V hw => ⟨(hw.cell (p := ⟨g1, 0, none⟩) hg1).trans a0, (hw.cell (p := ⟨g1, 1, none⟩) hg1).trans a1, (hw.cell (p := ⟨g1, 2, none⟩) hg1).trans a2, (hw.cell (p := ⟨g1, 3, none⟩) hg1).trans a3, (hw.cell (p := ⟨g1, 4, none⟩) hg1).trans a4, (hw.cell (p := ⟨g1, 5, none⟩) hg1).trans a5, (hw.cell (p := ⟨g2, 0, none⟩) hg2).trans b0, (hw.cell (p := ⟨g2, 1, none⟩) hg2).trans b1, (hw.cell (p := ⟨g2, 2, none⟩) hg2).trans b2, (hw.cell (p := ⟨g2, 3, none⟩) hg2).trans b3, (hw.cell (p := ⟨g2, 4, none⟩) hg2).trans b4, (hw.cell (p := ⟨g2, 5, none⟩) hg2).trans b5⟩
  clear hs HP7 HR2 HB2 a0 a1 a2 a3 a4 a5 b0 b1 b2 b3 b4 b5
  go_upto_region 11 with fail
  refine wp_region_held_drew (S := fun V => Below w7.heap.size w7 V) (by kernel_rfl) (CH.below_drew (Below.refl _ w7)) (fun hHeld => ?_)
  refine wpAnyH_take (i := 0) (v := .slice (some ⟨g1, 0, none⟩) 1 k1) rfl (by kernel_rfl) (by kernel_rfl) (by kernel_rfl) (fun _ _ _ h => h) (Or.inl ⟨by kernel_rfl, fun w1 hSw => by clear hHeld; obtain ⟨f0, f1, f2, f3, f4, f5, f6, f7, f8, f9, f10, f11⟩ := HCe.out _ hSw; go_simp⟩) hHeld ?_
  try simp only [Act.put]
  try simp only [List.getElem_toArray]
  try simp only [List.getElem_cons_succ]
  try simp only [List.getElem_cons_zero]
  try simp only [List.setIfInBounds_toArray]
  try simp only [List.set_cons_succ, List.set_cons_zero]
  refine wpAnyH_take (i := 1) (v := .int .i64 1) rfl (by kernel_rfl) (by kernel_rfl) (by kernel_rfl) (fun _ _ _ h => h) (Or.inl ⟨by kernel_rfl, fun w1 hSw => by clear hHeld; obtain ⟨f0, f1, f2, f3, f4, f5, f6, f7, f8, f9, f10, f11⟩ := HCe.out _ hSw; go_simp⟩) hHeld ?_
  try simp only [Act.put]
  try simp only [List.getElem_toArray]
  try simp only [List.getElem_cons_succ]
  try simp only [List.getElem_cons_zero]
  try simp only [List.setIfInBounds_toArray]
  try simp only [List.set_cons_succ, List.set_cons_zero]
  refine wpAnyH_take (i := 2) (v := .bool true) rfl (by kernel_rfl) (by kernel_rfl) (by kernel_rfl) (fun _ _ _ h => h) (Or.inl ⟨by kernel_rfl, fun w1 hSw => by clear hHeld; obtain ⟨f0, f1, f2, f3, f4, f5, f6, f7, f8, f9, f10, f11⟩ := HCe.out _ hSw; go_simp⟩) hHeld ?_
  try simp only [Act.put]
  try simp only [List.getElem_toArray]
  try simp only [List.getElem_cons_succ]
  try simp only [List.getElem_cons_zero]
  try simp only [List.setIfInBounds_toArray]
  try simp only [List.set_cons_succ, List.set_cons_zero]
  refine wpAnyH_take (i := 3) (v := .bool true) rfl (by kernel_rfl) (by kernel_rfl) (by kernel_rfl) (fun _ _ _ h => h) (Or.inl ⟨by kernel_rfl, fun w1 hSw => by clear hHeld; obtain ⟨f0, f1, f2, f3, f4, f5, f6, f7, f8, f9, f10, f11⟩ := HCe.out _ hSw; go_simp⟩) hHeld ?_
  try simp only [Act.put]
  try simp only [List.getElem_toArray]
  try simp only [List.getElem_cons_succ]
  try simp only [List.getElem_cons_zero]
  try simp only [List.setIfInBounds_toArray]
  try simp only [List.set_cons_succ, List.set_cons_zero]
  refine wpAnyH_take (i := 4) (v := .slice (some ⟨g1, 0, none⟩) 1 k1) rfl (by kernel_rfl) (by kernel_rfl) (by kernel_rfl) (fun _ _ _ h => h) (Or.inl ⟨by kernel_rfl, fun w1 hSw => by clear hHeld; obtain ⟨f0, f1, f2, f3, f4, f5, f6, f7, f8, f9, f10, f11⟩ := HCe.out _ hSw; go_simp⟩) hHeld ?_
  try simp only [Act.put]
  try simp only [List.getElem_toArray]
  try simp only [List.getElem_cons_succ]
  try simp only [List.getElem_cons_zero]
  try simp only [List.setIfInBounds_toArray]
  try simp only [List.set_cons_succ, List.set_cons_zero]
  refine wpAnyH_take (i := 5) (v := .pointer (some ⟨g1, 0, none⟩)) rfl (by kernel_rfl) (by kernel_rfl) (by kernel_rfl) (fun _ _ _ h => h) (Or.inl ⟨by kernel_rfl, fun w1 hSw => by clear hHeld; obtain ⟨f0, f1, f2, f3, f4, f5, f6, f7, f8, f9, f10, f11⟩ := HCe.out _ hSw; go_simp⟩) hHeld ?_
  try simp only [Act.put]
  try simp only [List.getElem_toArray]
  try simp only [List.getElem_cons_succ]
  try simp only [List.getElem_cons_zero]
  try simp only [List.setIfInBounds_toArray]
  try simp only [List.set_cons_succ, List.set_cons_zero]
  refine wpAnyH_take (i := 6) (v := .agg #[.int .i64 0, .int .i64 2, .int .i64 1, .int .i64 0, .int .i64 0, .string ⟨#[1]⟩]) rfl (by kernel_rfl) (by kernel_rfl) (by kernel_rfl) (fun _ _ _ h => h) (Or.inl ⟨by kernel_rfl, fun w1 hSw => by clear hHeld; obtain ⟨f0, f1, f2, f3, f4, f5, f6, f7, f8, f9, f10, f11⟩ := HCe.out _ hSw; go_simp⟩) hHeld ?_
  try simp only [Act.put]
  try simp only [List.getElem_toArray]
  try simp only [List.getElem_cons_succ]
  try simp only [List.getElem_cons_zero]
  try simp only [List.setIfInBounds_toArray]
  try simp only [List.set_cons_succ, List.set_cons_zero]
  refine wpAnyH_take (i := 7) (v := .agg #[.int .i64 2, .int .i64 1]) rfl (by kernel_rfl) (by kernel_rfl) (by kernel_rfl) (fun _ _ _ h => h) (Or.inl ⟨by kernel_rfl, fun w1 hSw => by clear hHeld; obtain ⟨f0, f1, f2, f3, f4, f5, f6, f7, f8, f9, f10, f11⟩ := HCe.out _ hSw; go_simp⟩) hHeld ?_
  try simp only [Act.put]
  try simp only [List.getElem_toArray]
  try simp only [List.getElem_cons_succ]
  try simp only [List.getElem_cons_zero]
  try simp only [List.setIfInBounds_toArray]
  try simp only [List.set_cons_succ, List.set_cons_zero]
  refine wpAnyH_take (i := 8) (v := .agg #[.int .i64 0, .int .i64 2, .int .i64 1, .int .i64 0, .int .i64 0, .string ⟨#[1]⟩]) rfl (by kernel_rfl) (by kernel_rfl) (by kernel_rfl) (fun _ _ _ h => h) (Or.inl ⟨by kernel_rfl, fun w1 hSw => by clear hHeld; obtain ⟨f0, f1, f2, f3, f4, f5, f6, f7, f8, f9, f10, f11⟩ := HCe.out _ hSw; go_simp⟩) hHeld ?_
  try simp only [Act.put]
  try simp only [List.getElem_toArray]
  try simp only [List.getElem_cons_succ]
  try simp only [List.getElem_cons_zero]
  try simp only [List.setIfInBounds_toArray]
  try simp only [List.set_cons_succ, List.set_cons_zero]
  refine wpAnyH_take (i := 9) (v := .bool true) rfl (by kernel_rfl) (by kernel_rfl) (by kernel_rfl) (fun _ _ _ h => h) (Or.inl ⟨by kernel_rfl, fun w1 hSw => by clear hHeld; obtain ⟨f0, f1, f2, f3, f4, f5, f6, f7, f8, f9, f10, f11⟩ := HCe.out _ hSw; go_simp⟩) hHeld ?_
  try simp only [Act.put]
  try simp only [List.getElem_toArray]
  try simp only [List.getElem_cons_succ]
  try simp only [List.getElem_cons_zero]
  try simp only [List.setIfInBounds_toArray]
  try simp only [List.set_cons_succ, List.set_cons_zero]
  refine wpAnyH_take (i := 10) (v := .bool true) rfl (by kernel_rfl) (by kernel_rfl) (by kernel_rfl) (fun _ _ _ h => h) (Or.inl ⟨by kernel_rfl, fun w1 hSw => by clear hHeld; obtain ⟨f0, f1, f2, f3, f4, f5, f6, f7, f8, f9, f10, f11⟩ := HCe.out _ hSw; go_simp⟩) hHeld ?_
  try simp only [Act.put]
  try simp only [List.getElem_toArray]
  try simp only [List.getElem_cons_succ]
  try simp only [List.getElem_cons_zero]
  try simp only [List.setIfInBounds_toArray]
  try simp only [List.set_cons_succ, List.set_cons_zero]
  refine wpAnyH_take (i := 11) (v := .bool true) rfl (by kernel_rfl) (by kernel_rfl) (by kernel_rfl) (fun _ _ _ h => h) (Or.inl ⟨by kernel_rfl, fun w1 hSw => by clear hHeld; obtain ⟨f0, f1, f2, f3, f4, f5, f6, f7, f8, f9, f10, f11⟩ := HCe.out _ hSw; go_simp⟩) hHeld ?_
  try simp only [Act.put]
  try simp only [List.getElem_toArray]
  try simp only [List.getElem_cons_succ]
  try simp only [List.getElem_cons_zero]
  try simp only [List.setIfInBounds_toArray]
  try simp only [List.set_cons_succ, List.set_cons_zero]
  refine wpAnyH_take (i := 12) (v := .slice ad1 0 k2) rfl (by kernel_rfl) (by kernel_rfl) (by kernel_rfl) (fun _ _ _ h => h) (Or.inl ⟨by kernel_rfl, fun w1 hSw => by clear hHeld; obtain ⟨f0, f1, f2, f3, f4, f5, f6, f7, f8, f9, f10, f11⟩ := HCe.out _ hSw; go_simp⟩) hHeld ?_
  try simp only [Act.put]
  try simp only [List.getElem_toArray]
  try simp only [List.getElem_cons_succ]
  try simp only [List.getElem_cons_zero]
  try simp only [List.setIfInBounds_toArray]
  try simp only [List.set_cons_succ, List.set_cons_zero]
  refine wpAnyH_take (i := 13) (v := .int .i64 0) rfl (by kernel_rfl) (by kernel_rfl) (by kernel_rfl) (fun _ _ _ h => h) (Or.inl ⟨by kernel_rfl, fun w1 hSw => by clear hHeld; obtain ⟨f0, f1, f2, f3, f4, f5, f6, f7, f8, f9, f10, f11⟩ := HCe.out _ hSw; go_simp⟩) hHeld ?_
  try simp only [Act.put]
  try simp only [List.getElem_toArray]
  try simp only [List.getElem_cons_succ]
  try simp only [List.getElem_cons_zero]
  try simp only [List.setIfInBounds_toArray]
  try simp only [List.set_cons_succ, List.set_cons_zero]
  refine wpAnyH_take (i := 14) (v := .bool true) rfl (by kernel_rfl) (by kernel_rfl) (by kernel_rfl) (fun _ _ _ h => h) (Or.inl ⟨by kernel_rfl, fun w1 hSw => by clear hHeld; obtain ⟨f0, f1, f2, f3, f4, f5, f6, f7, f8, f9, f10, f11⟩ := HCe.out _ hSw; go_simp⟩) hHeld ?_
  try simp only [Act.put]
  try simp only [List.getElem_toArray]
  try simp only [List.getElem_cons_succ]
  try simp only [List.getElem_cons_zero]
  try simp only [List.setIfInBounds_toArray]
  try simp only [List.set_cons_succ, List.set_cons_zero]
  refine wpAnyH_take (i := 15) (v := .bool true) rfl (by kernel_rfl) (by kernel_rfl) (by kernel_rfl) (fun _ _ _ h => h) (Or.inl ⟨by kernel_rfl, fun w1 hSw => by clear hHeld; obtain ⟨f0, f1, f2, f3, f4, f5, f6, f7, f8, f9, f10, f11⟩ := HCe.out _ hSw; go_simp⟩) hHeld ?_
  try simp only [Act.put]
  try simp only [List.getElem_toArray]
  try simp only [List.getElem_cons_succ]
  try simp only [List.getElem_cons_zero]
  try simp only [List.setIfInBounds_toArray]
  try simp only [List.set_cons_succ, List.set_cons_zero]
  refine wpAnyH_take (i := 16) (v := .bool true) rfl (by kernel_rfl) (by kernel_rfl) (by kernel_rfl) (fun _ _ _ h => h) (Or.inl ⟨by kernel_rfl, fun w1 hSw => by clear hHeld; obtain ⟨f0, f1, f2, f3, f4, f5, f6, f7, f8, f9, f10, f11⟩ := HCe.out _ hSw; go_simp⟩) hHeld ?_
  try simp only [Act.put]
  try simp only [List.getElem_toArray]
  try simp only [List.getElem_cons_succ]
  try simp only [List.getElem_cons_zero]
  try simp only [List.setIfInBounds_toArray]
  try simp only [List.set_cons_succ, List.set_cons_zero]
  refine wpAnyH_take (i := 17) (v := .slice (some ⟨g2, 0, none⟩) 1 k3) rfl (by kernel_rfl) (by kernel_rfl) (by kernel_rfl) (fun _ _ _ h => h) (Or.inl ⟨by kernel_rfl, fun w1 hSw => by clear hHeld; obtain ⟨f0, f1, f2, f3, f4, f5, f6, f7, f8, f9, f10, f11⟩ := HCe.out _ hSw; go_simp⟩) hHeld ?_
  try simp only [Act.put]
  try simp only [List.getElem_toArray]
  try simp only [List.getElem_cons_succ]
  try simp only [List.getElem_cons_zero]
  try simp only [List.setIfInBounds_toArray]
  try simp only [List.set_cons_succ, List.set_cons_zero]
  refine wpAnyH_take (i := 18) (v := .int .i64 1) rfl (by kernel_rfl) (by kernel_rfl) (by kernel_rfl) (fun _ _ _ h => h) (Or.inl ⟨by kernel_rfl, fun w1 hSw => by clear hHeld; obtain ⟨f0, f1, f2, f3, f4, f5, f6, f7, f8, f9, f10, f11⟩ := HCe.out _ hSw; go_simp⟩) hHeld ?_
  try simp only [Act.put]
  try simp only [List.getElem_toArray]
  try simp only [List.getElem_cons_succ]
  try simp only [List.getElem_cons_zero]
  try simp only [List.setIfInBounds_toArray]
  try simp only [List.set_cons_succ, List.set_cons_zero]
  refine wpAnyH_take (i := 19) (v := .bool true) rfl (by kernel_rfl) (by kernel_rfl) (by kernel_rfl) (fun _ _ _ h => h) (Or.inl ⟨by kernel_rfl, fun w1 hSw => by clear hHeld; obtain ⟨f0, f1, f2, f3, f4, f5, f6, f7, f8, f9, f10, f11⟩ := HCe.out _ hSw; go_simp⟩) hHeld ?_
  try simp only [Act.put]
  try simp only [List.getElem_toArray]
  try simp only [List.getElem_cons_succ]
  try simp only [List.getElem_cons_zero]
  try simp only [List.setIfInBounds_toArray]
  try simp only [List.set_cons_succ, List.set_cons_zero]
  refine wpAnyH_take (i := 20) (v := .bool true) rfl (by kernel_rfl) (by kernel_rfl) (by kernel_rfl) (fun _ _ _ h => h) (Or.inl ⟨by kernel_rfl, fun w1 hSw => by clear hHeld; obtain ⟨f0, f1, f2, f3, f4, f5, f6, f7, f8, f9, f10, f11⟩ := HCe.out _ hSw; go_simp⟩) hHeld ?_
  try simp only [Act.put]
  try simp only [List.getElem_toArray]
  try simp only [List.getElem_cons_succ]
  try simp only [List.getElem_cons_zero]
  try simp only [List.setIfInBounds_toArray]
  try simp only [List.set_cons_succ, List.set_cons_zero]
  refine wpAnyH_take (i := 21) (v := .bool true) rfl (by kernel_rfl) (by kernel_rfl) (by kernel_rfl) (fun _ _ _ h => h) (Or.inl ⟨by kernel_rfl, fun w1 hSw => by clear hHeld; obtain ⟨f0, f1, f2, f3, f4, f5, f6, f7, f8, f9, f10, f11⟩ := HCe.out _ hSw; go_simp⟩) hHeld ?_
  try simp only [Act.put]
  try simp only [List.getElem_toArray]
  try simp only [List.getElem_cons_succ]
  try simp only [List.getElem_cons_zero]
  try simp only [List.setIfInBounds_toArray]
  try simp only [List.set_cons_succ, List.set_cons_zero]
  refine wpAnyH_take (i := 22) (v := .slice (some ⟨g2, 0, none⟩) 1 k3) rfl (by kernel_rfl) (by kernel_rfl) (by kernel_rfl) (fun _ _ _ h => h) (Or.inl ⟨by kernel_rfl, fun w1 hSw => by clear hHeld; obtain ⟨f0, f1, f2, f3, f4, f5, f6, f7, f8, f9, f10, f11⟩ := HCe.out _ hSw; go_simp⟩) hHeld ?_
  try simp only [Act.put]
  try simp only [List.getElem_toArray]
  try simp only [List.getElem_cons_succ]
  try simp only [List.getElem_cons_zero]
  try simp only [List.setIfInBounds_toArray]
  try simp only [List.set_cons_succ, List.set_cons_zero]
  refine wpAnyH_take (i := 23) (v := .pointer (some ⟨g2, 0, none⟩)) rfl (by kernel_rfl) (by kernel_rfl) (by kernel_rfl) (fun _ _ _ h => h) (Or.inl ⟨by kernel_rfl, fun w1 hSw => by clear hHeld; obtain ⟨f0, f1, f2, f3, f4, f5, f6, f7, f8, f9, f10, f11⟩ := HCe.out _ hSw; go_simp⟩) hHeld ?_
  try simp only [Act.put]
  try simp only [List.getElem_toArray]
  try simp only [List.getElem_cons_succ]
  try simp only [List.getElem_cons_zero]
  try simp only [List.setIfInBounds_toArray]
  try simp only [List.set_cons_succ, List.set_cons_zero]
  refine wpAnyH_take (i := 24) (v := .agg #[.int .i64 0, .int .i64 2, .int .i64 1, .int .i64 0, .int .i64 0, .string ⟨#[1]⟩]) rfl (by kernel_rfl) (by kernel_rfl) (by kernel_rfl) (fun _ _ _ h => h) (Or.inl ⟨by kernel_rfl, fun w1 hSw => by clear hHeld; obtain ⟨f0, f1, f2, f3, f4, f5, f6, f7, f8, f9, f10, f11⟩ := HCe.out _ hSw; go_simp⟩) hHeld ?_
  try simp only [Act.put]
  try simp only [List.getElem_toArray]
  try simp only [List.getElem_cons_succ]
  try simp only [List.getElem_cons_zero]
  try simp only [List.setIfInBounds_toArray]
  try simp only [List.set_cons_succ, List.set_cons_zero]
  refine wpAnyH_take (i := 25) (v := .slice (some ⟨g1, 0, none⟩) 1 k1) rfl (by kernel_rfl) (by kernel_rfl) (by kernel_rfl) (fun _ _ _ h => h) (Or.inl ⟨by kernel_rfl, fun w1 hSw => by clear hHeld; obtain ⟨f0, f1, f2, f3, f4, f5, f6, f7, f8, f9, f10, f11⟩ := HCe.out _ hSw; go_simp⟩) hHeld ?_
  try simp only [Act.put]
  try simp only [List.getElem_toArray]
  try simp only [List.getElem_cons_succ]
  try simp only [List.getElem_cons_zero]
  try simp only [List.setIfInBounds_toArray]
  try simp only [List.set_cons_succ, List.set_cons_zero]
  refine wpAnyH_take (i := 26) (v := .pointer (some ⟨g1, 0, none⟩)) rfl (by kernel_rfl) (by kernel_rfl) (by kernel_rfl) (fun _ _ _ h => h) (Or.inl ⟨by kernel_rfl, fun w1 hSw => by clear hHeld; obtain ⟨f0, f1, f2, f3, f4, f5, f6, f7, f8, f9, f10, f11⟩ := HCe.out _ hSw; go_simp⟩) hHeld ?_
  try simp only [Act.put]
  try simp only [List.getElem_toArray]
  try simp only [List.getElem_cons_succ]
  try simp only [List.getElem_cons_zero]
  try simp only [List.setIfInBounds_toArray]
  try simp only [List.set_cons_succ, List.set_cons_zero]
  refine wpAnyH_take (i := 27) (v := .agg #[.int .i64 0, .int .i64 2, .int .i64 1, .int .i64 0, .int .i64 0, .string ⟨#[1]⟩]) rfl (by kernel_rfl) (by kernel_rfl) (by kernel_rfl) (fun _ _ _ h => h) (Or.inl ⟨by kernel_rfl, fun w1 hSw => by clear hHeld; obtain ⟨f0, f1, f2, f3, f4, f5, f6, f7, f8, f9, f10, f11⟩ := HCe.out _ hSw; go_simp⟩) hHeld ?_
  try simp only [Act.put]
  try simp only [List.getElem_toArray]
  try simp only [List.getElem_cons_succ]
  try simp only [List.getElem_cons_zero]
  try simp only [List.setIfInBounds_toArray]
  try simp only [List.set_cons_succ, List.set_cons_zero]
  refine wpAnyH_take (i := 28) (v := .bool true) rfl (by kernel_rfl) (by kernel_rfl) (by kernel_rfl) (fun _ _ _ h => h) (Or.inl ⟨by kernel_rfl, fun w1 hSw => by clear hHeld; obtain ⟨f0, f1, f2, f3, f4, f5, f6, f7, f8, f9, f10, f11⟩ := HCe.out _ hSw; go_simp⟩) hHeld ?_
  try simp only [Act.put]
  try simp only [List.getElem_toArray]
  try simp only [List.getElem_cons_succ]
  try simp only [List.getElem_cons_zero]
  try simp only [List.setIfInBounds_toArray]
  try simp only [List.set_cons_succ, List.set_cons_zero]
  refine wpAnyH_take (i := 29) (v := .bool true) rfl (by kernel_rfl) (by kernel_rfl) (by kernel_rfl) (fun _ _ _ h => h) (Or.inl ⟨by kernel_rfl, fun w1 hSw => by clear hHeld; obtain ⟨f0, f1, f2, f3, f4, f5, f6, f7, f8, f9, f10, f11⟩ := HCe.out _ hSw; go_simp⟩) hHeld ?_
  try simp only [Act.put]
  try simp only [List.getElem_toArray]
  try simp only [List.getElem_cons_succ]
  try simp only [List.getElem_cons_zero]
  try simp only [List.setIfInBounds_toArray]
  try simp only [List.set_cons_succ, List.set_cons_zero]
  refine wpAnyH_take (i := 30) (v := .bool true) rfl (by kernel_rfl) (by kernel_rfl) (by kernel_rfl) (fun _ _ _ h => h) (Or.inl ⟨by kernel_rfl, fun w1 hSw => by clear hHeld; obtain ⟨f0, f1, f2, f3, f4, f5, f6, f7, f8, f9, f10, f11⟩ := HCe.out _ hSw; go_simp⟩) hHeld ?_
  try simp only [Act.put]
  try simp only [List.getElem_toArray]
  try simp only [List.getElem_cons_succ]
  try simp only [List.getElem_cons_zero]
  try simp only [List.setIfInBounds_toArray]
  try simp only [List.set_cons_succ, List.set_cons_zero]
  refine wpAnyH_take (i := 31) (v := .pointer (some ⟨a.R, 0, none⟩)) rfl (by kernel_rfl) (by kernel_rfl) (by kernel_rfl) (fun _ _ _ h => h) (Or.inl ⟨by kernel_rfl, fun w1 hSw => by clear hHeld; obtain ⟨f0, f1, f2, f3, f4, f5, f6, f7, f8, f9, f10, f11⟩ := HCe.out _ hSw; go_simp⟩) hHeld ?_
  try simp only [Act.put]
  try simp only [List.getElem_toArray]
  try simp only [List.getElem_cons_succ]
  try simp only [List.getElem_cons_zero]
  try simp only [List.setIfInBounds_toArray]
  try simp only [List.set_cons_succ, List.set_cons_zero]
  refine wpAnyH_ready (rs := [32]) (by kernel_rfl) (by simp) ?_
  refine AllReadyH.cons rfl (fun K hK => ?_) AllReadyH.nil
  go_simp
  refine (HLk.out _ hHeld).mono ?_
  rintro e V1 ⟨rfl, hb⟩
  have HS1 := hide (hHeld.trans (hb.mono (hHeld).size))
  clear hb
  refine hK.out _ _ (HS1.out) (fun hHeld => ?_)
  clear hK K
  try simp only [Act.put]
  try simp only [List.getElem_toArray]
  try simp only [List.getElem_cons_succ]
  try simp only [List.getElem_cons_zero]
  try simp only [List.setIfInBounds_toArray]
  try simp only [List.set_cons_succ, List.set_cons_zero]
  refine wpAnyH_take (i := 33) (v := .bool true) rfl (by kernel_rfl) (by kernel_rfl) (by kernel_rfl) (fun _ _ _ h => h) (Or.inl ⟨by kernel_rfl, fun w1 hSw => by clear hHeld; obtain ⟨f0, f1, f2, f3, f4, f5, f6, f7, f8, f9, f10, f11⟩ := HCe.out _ hSw; go_simp⟩) hHeld ?_
  try simp only [Act.put]
  try simp only [List.getElem_toArray]
  try simp only [List.getElem_cons_succ]
  try simp only [List.getElem_cons_zero]
  try simp only [List.setIfInBounds_toArray]
  try simp only [List.set_cons_succ, List.set_cons_zero]
  refine wpAnyH_take (i := 34) (v := .bool true) rfl (by kernel_rfl) (by kernel_rfl) (by kernel_rfl) (fun _ _ _ h => h) (Or.inl ⟨by kernel_rfl, fun w1 hSw => by clear hHeld; obtain ⟨f0, f1, f2, f3, f4, f5, f6, f7, f8, f9, f10, f11⟩ := HCe.out _ hSw; go_simp⟩) hHeld ?_
  try simp only [Act.put]
  try simp only [List.getElem_toArray]
  try simp only [List.getElem_cons_succ]
  try simp only [List.getElem_cons_zero]
  try simp only [List.setIfInBounds_toArray]
  try simp only [List.set_cons_succ, List.set_cons_zero]
  refine wpAnyH_take (i := 35) (v := .bool true) rfl (by kernel_rfl) (by kernel_rfl) (by kernel_rfl) (fun _ _ _ h => h) (Or.inl ⟨by kernel_rfl, fun w1 hSw => by clear hHeld; obtain ⟨f0, f1, f2, f3, f4, f5, f6, f7, f8, f9, f10, f11⟩ := HCe.out _ hSw; go_simp⟩) hHeld ?_
  try simp only [Act.put]
  try simp only [List.getElem_toArray]
  try simp only [List.getElem_cons_succ]
  try simp only [List.getElem_cons_zero]
  try simp only [List.setIfInBounds_toArray]
  try simp only [List.set_cons_succ, List.set_cons_zero]
  refine wpAnyH_take (i := 36) (v := .pointer (some ⟨a.R, 0, none⟩)) rfl (by kernel_rfl) (by kernel_rfl) (by kernel_rfl) (fun _ _ _ h => h) (Or.inl ⟨by kernel_rfl, fun w1 hSw => by clear hHeld; obtain ⟨f0, f1, f2, f3, f4, f5, f6, f7, f8, f9, f10, f11⟩ := HCe.out _ hSw; go_simp⟩) hHeld ?_
  try simp only [Act.put]
  try simp only [List.getElem_toArray]
  try simp only [List.getElem_cons_succ]
  try simp only [List.getElem_cons_zero]
  try simp only [List.setIfInBounds_toArray]
  try simp only [List.set_cons_succ, List.set_cons_zero]
  refine wpAnyH_ready (rs := [37]) (by kernel_rfl) (by simp) ?_
  refine AllReadyH.cons rfl (fun K hK => ?_) AllReadyH.nil
  go_simp
  refine (HLk.out _ HS1.out).mono ?_
  rintro e V2 ⟨rfl, hb⟩
  have HS2 := hide (HS1.out.trans (hb.mono (HS1.out).size))
  clear hb
  refine hK.out _ _ (HS2.out) (fun hHeld => ?_)
  clear hK K
  try simp only [Act.put]
  try simp only [List.getElem_toArray]
  try simp only [List.getElem_cons_succ]
  try simp only [List.getElem_cons_zero]
  try simp only [List.setIfInBounds_toArray]
  try simp only [List.set_cons_succ, List.set_cons_zero]
  refine wpAnyH_take (i := 38) (v := .int .i64 1) rfl (by kernel_rfl) (by kernel_rfl) (by kernel_rfl) (fun _ _ _ h => h) (Or.inl ⟨by kernel_rfl, fun w1 hSw => by clear hHeld; obtain ⟨f0, f1, f2, f3, f4, f5, f6, f7, f8, f9, f10, f11⟩ := HCe.out _ hSw; go_simp⟩) hHeld ?_
  try simp only [Act.put]
  try simp only [List.getElem_toArray]
  try simp only [List.getElem_cons_succ]
  try simp only [List.getElem_cons_zero]
  try simp only [List.setIfInBounds_toArray]
  try simp only [List.set_cons_succ, List.set_cons_zero]
  refine wpAnyH_take (i := 39) (v := .bool true) rfl (by kernel_rfl) (by kernel_rfl) (by kernel_rfl) (fun _ _ _ h => h) (Or.inl ⟨by kernel_rfl, fun w1 hSw => by clear hHeld; obtain ⟨f0, f1, f2, f3, f4, f5, f6, f7, f8, f9, f10, f11⟩ := HCe.out _ hSw; go_simp⟩) hHeld ?_
  try simp only [Act.put]
  try simp only [List.getElem_toArray]
  try simp only [List.getElem_cons_succ]
  try simp only [List.getElem_cons_zero]
  try simp only [List.setIfInBounds_toArray]
  try simp only [List.set_cons_succ, List.set_cons_zero]
  refine wpAnyH_take (i := 40) (v := .bool true) rfl (by kernel_rfl) (by kernel_rfl) (by kernel_rfl) (fun _ _ _ h => h) (Or.inl ⟨by kernel_rfl, fun w1 hSw => by clear hHeld; obtain ⟨f0, f1, f2, f3, f4, f5, f6, f7, f8, f9, f10, f11⟩ := HCe.out _ hSw; go_simp⟩) hHeld ?_
  try simp only [Act.put]
  try simp only [List.getElem_toArray]
  try simp only [List.getElem_cons_succ]
  try simp only [List.getElem_cons_zero]
  try simp only [List.setIfInBounds_toArray]
  try simp only [List.set_cons_succ, List.set_cons_zero]
  refine wpAnyH_take (i := 41) (v := .bool true) rfl (by kernel_rfl) (by kernel_rfl) (by kernel_rfl) (fun _ _ _ h => h) (Or.inl ⟨by kernel_rfl, fun w1 hSw => by clear hHeld; obtain ⟨f0, f1, f2, f3, f4, f5, f6, f7, f8, f9, f10, f11⟩ := HCe.out _ hSw; go_simp⟩) hHeld ?_
  try simp only [Act.put]
  try simp only [List.getElem_toArray]
  try simp only [List.getElem_cons_succ]
  try simp only [List.getElem_cons_zero]
  try simp only [List.setIfInBounds_toArray]
  try simp only [List.set_cons_zero]
  refine wpAnyH_done (by kernel_rfl) ?_ _
  go_wp2_with fail
  go_ret
  exact ⟨rfl, HBf.out.trans (HS2.out.mono HBf.out.size)⟩
end Go.Proofs.YtkfnedhllfdghaaGreatDoor.RN
end

section
namespace Go.Proofs.YtkfnedhllfdghaaGreatDoor.RN
open Go.RowKit Go.Shelf
set_option maxRecDepth 20000

theorem stp_T {r : Rn} (h : r.ok) : r.stp.T.length ≤ r.T.length + 128 := by
  have e : r.stp.T = r.mid.T := rfl
  rw [e]
  unfold Rn.mid
  split
  · omega
  · rename_i j hj
    have h1 := reck_len (r.who j) r.qu j r.T
    have h2 := h.q2
    show (reck (r.who j) r.qu j r.T).2.length ≤ _
    omega
/-- a runner that a law made: what it may turn is new -/
structure Fr (W1 : World) (a : RA) (r : Rn) (V : World) : Prop where
  rm : Rm V a r
  ok : r.ok
  bl : Below W1.heap.size W1 V
  g : ∀ x i, a.g r x i → W1.heap.size ≤ x
theorem Fr.st {W1 V V' : World} {a a' : RA} {r r' : Rn} (h : Fr W1 a r V) (s : St V a r V' a' r') (hk : r'.ok) : Fr W1 a' r' V' :=
  ⟨s.rm, hk, Kp.bel h.bl s.kp h.g, fun x i hx => (s.g x i hx).elim (h.g x i) (fun h9 => Nat.le_trans h.bl.size h9)⟩
theorem Fr.low {W1 V V' : World} {a : RA} {r : Rn} (h : Fr W1 a r V) (hb : Below V.heap.size V V') : Fr W1 a r V' :=
  ⟨h.rm.below hb, h.ok, h.bl.trans (hb.mono h.bl.size), h.g⟩
theorem NR.fr {W1 V : World} {a : RA} {r : Rn} (h : NR W1 a r V) (hk : r.ok) : Fr W1 a r V := ⟨h.rm, hk, h.bl, h.g⟩
/-- two runners that lie apart -/
structure Tw (W1 : World) (a : RA) (r : Rn) (b : RA) (s : Rn) (V : World) : Prop where
  x : Fr W1 a r V
  y : Fr W1 b s V
  ab : ∀ x i, b.d s x i → ¬ a.g r x i
  ba : ∀ x i, a.d r x i → ¬ b.g s x i
theorem Tw.low {W1 V V' : World} {a b : RA} {r s : Rn} (h : Tw W1 a r b s V) (hb : Below V.heap.size V V') : Tw W1 a r b s V' := ⟨h.x.low hb, h.y.low hb, h.ab, h.ba⟩
theorem Tw.one {W1 V V' : World} {a b a' : RA} {r s r' : Rn} (h : Tw W1 a r b s V) (t : St V a r V' a' r') (hk : r'.ok) : Tw W1 a' r' b s V' :=
  ⟨h.x.st t hk, ⟨h.y.rm.kp t.kp (fun x i hd hg => h.ab x i hd hg), h.y.ok, (h.x.st t hk).bl, h.y.g⟩,
    fun x i hd hg => (t.g x i hg).elim (h.ab x i hd) (fun h9 => absurd (h.y.rm.lt hd) (Nat.not_lt.2 h9)),
    fun x i hd hg => (t.d x i hd).elim (fun h9 => h.ba x i h9 hg) (fun h9 => absurd (h.y.rm.lt (RA.g_d hg)) (Nat.not_lt.2 h9))⟩
theorem Tw.swap {W1 V : World} {a b : RA} {r s : Rn} (h : Tw W1 a r b s V) : Tw W1 b s a r V := ⟨h.y, h.x, h.ba, h.ab⟩
theorem Tw.two {W1 V V' : World} {a b b' : RA} {r s s' : Rn} (h : Tw W1 a r b s V) (t : St V b s V' b' s') (hk : s'.ok) : Tw W1 a r b' s' V' := (h.swap.one t hk).swap
theorem Fr.clone {W1 V V' : World} {a b : RA} {r : Rn} (h : Fr W1 a r V) (c : RC V a r b V') : Tw W1 a r b r V' :=
  ⟨h.low c.bl, ⟨c.rm, h.ok, (h.low c.bl).bl, fun x i hg => Nat.le_trans h.bl.size (c.g x i hg)⟩,
    fun x i hd hg => (c.d x i hd).elim (fun h9 => absurd (h.rm.lt (RA.g_d hg)) (Nat.not_lt.2 h9)) (fun h9 => h9 hg),
    fun x i hd hg => absurd (h.rm.lt hd) (Nat.not_lt.2 (c.g x i hg))⟩
set_option maxHeartbeats 4000000 in
theorem look_eq (r : Rn) (w : World) : (binOp .eql 48 (.agg r.look) (.agg r.look)).run Tryz.prog w = .ok (.bool true) w := by
  have h : (Op.equalIn 10000 48 (.agg r.look) (.agg r.look)).run Tryz.prog w = .ok true w := by
    unfold Rn.look
    cases r.j with
    | none => go_simp
    | some j => go_simp
  rw [run_eql_struct, h]; rfl
/-- what the document's reader reads -/
theorem rdec_p (b : ByteArray) (w : World) (hbs : b.size ≤ 140737488351232) : Calls Tryz.prog 23 #[.string b] w fun e w' => e = .returned (.tuple #[.agg (W.msgC (W.Wr.decode W.limP b).1), .int .i64 ((W.Wr.decode W.limP b).2 : Int)]) ∧ Below w.heap.size w w' := by
  have h := W.rdecode_any b w hbs
  rw [W.Wr.decode_eq W.lim_d W.lim_p b] at h
  exact h
end Go.Proofs.YtkfnedhllfdghaaGreatDoor.RN
end
