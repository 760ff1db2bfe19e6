import Derived.Test.YthjngodkpldpfaaGreatDoorMgAW
import Derived.Test.YthjngodkpldpfaaGreatDoorMgAV

section
namespace Go.Proofs.YthjngodkpldpfaaGreatDoor
open Go.RowKit Go.Shelf

/-- a slice of ints that is only read -/
structure Ns (w : World) (v : Value) (l : List Int) : Prop where
  form : ∃ p cap, v = .slice p l.length cap ∧ (0 < l.length → ∃ b off, p = some ⟨b, off, none⟩ ∧ b < w.heap.size ∧ ∀ j, j < l.length → w.cell? ⟨b, off + j, none⟩ = some (.int .i64 l[j]!))
  len : l.length ≤ 9223372036854775807
  hi : ∀ x ∈ l, x ≤ 9223372036854775807
theorem Ns.below {w w' : World} {v : Value} {l : List Int} (h : Ns w v l) (k : Below w.heap.size w w') : Ns w' v l := by
  obtain ⟨⟨p, cap, hv, h1⟩, h2, h3⟩ := h
  refine ⟨⟨p, cap, hv, fun h0 => ?_⟩, h2, h3⟩
  obtain ⟨b, off, hp, hb, hc⟩ := h1 h0
  exact ⟨b, off, hp, Nat.lt_of_lt_of_le hb k.size, fun j hj => (k.cell (p := ⟨b, off + j, none⟩) hb).trans (hc j hj)⟩
theorem nd_up : ∀ k u : Nat, u < 10 ^ (k + 1) → Lib.nDigits u ≤ k + 1
  | 0, u, h => by rw [Lib.nDigits_small (by simpa using h)]; exact Nat.le_refl _
  | k + 1, u, h => by
    by_cases h1 : u < 10
    · rw [Lib.nDigits_small h1]; omega
    · rw [Lib.nDigits_big h1]
      have := nd_up k (u / 10) (by rw [Nat.pow_succ] at h; omega)
      omega
theorem itoa_short (n : Int) (h1 : -2000 ≤ n) (h2 : n ≤ 2000) : (Lib.itoa n).length ≤ 5 := by
  unfold Lib.itoa
  split
  · have := nd_up 3 n.natAbs (by show n.natAbs < 10000; omega); rw [List.length_cons, Lib.decDigits_length]; omega
  · have := nd_up 3 n.toNat (by show n.toNat < 10000; omega); rw [Lib.decDigits_length]; omega
theorem amt_short (a : Nat) : (amtB a).size ≤ 22 := by
  unfold amtB
  split
  · decide
  split
  · decide
  split
  · decide
  · next h1 h2 h3 =>
    have hc : 3 ≤ clsN a := by omega
    have hM := tM_lt a
    have hz := ctz_lt (tM a) (tM_ne a hc) (by omega)
    have hE := tE_bd a
    have ho : oN a ≤ tM a := Nat.div_le_self _ _
    have l1 := nd_up 15 (oN a) (by show oN a < 10000000000000000; omega)
    rw [← Lib.decDigits_length] at l1
    have l2 := itoa_short (pN a) (by unfold pN; omega) (by unfold pN; omega)
    simp only [ByteArray.size_append]
    show (Lib.decDigits (oN a)).toArray.size + 1 + (Lib.itoa (pN a)).toArray.size ≤ 22
    simp
    omega
theorem text_short (a : Nat) : (textB a).size ≤ 32 := by
  unfold textB
  split
  · have := amt_short (Gn.canonW a); omega
  · have := amt_short (Gn.canonW a % 9223372036854775808)
    rw [ByteArray.size_append]
    show 1 + (amtB (Gn.canonW a % 9223372036854775808)).size ≤ 32
    omega
theorem doM_told (m : Mc) (x : In) (many : Nat) : (Im.doM m x many).1 = 0 →
    ((Im.doM m x many).2.2.1 = 0 ∧ (Im.doM m x many).2.1.ch = m.ch ∧ (Im.doM m x many).2.1.pc = m.pc) ∨
    ((Im.doM m x many).2.2.1 = 1 ∧ (Im.doM m x many).2.1.ch = m.ch + 1 ∧ (Im.doM m x many).2.1.pc = m.pc ∧ (Im.doM m x many).2.2.2.size ≤ 32) ∨
    ((Im.doM m x many).2.2.1 = 2 ∧ (Im.doM m x many).2.1.ch = m.ch ∧ (Im.doM m x many).2.1.pc = m.pc + 1 ∧ (Im.doM m x many).2.2.2.size ≤ 32) := by
  refine doM_ind (P := fun d => d.1 = 0 → (d.2.2.1 = 0 ∧ d.2.1.ch = m.ch ∧ d.2.1.pc = m.pc) ∨ (d.2.2.1 = 1 ∧ d.2.1.ch = m.ch + 1 ∧ d.2.1.pc = m.pc ∧ d.2.2.2.size ≤ 32) ∨ (d.2.2.1 = 2 ∧ d.2.1.ch = m.ch ∧ d.2.1.pc = m.pc + 1 ∧ d.2.2.2.size ≤ 32)) m x many ?_ ?_ ?_ ?_ ?_ ?_ ?_ ?_ ?_ ?_ ?_ ?_ ?_ ?_ ?_ ?_ ?_ ?_ ?_ ?_
  all_goals intro _ _
  all_goals first
    | exact .inl ⟨rfl, rfl, rfl⟩
    | exact .inr (.inl ⟨rfl, rfl, rfl, text_short _⟩)
    | exact .inr (.inr ⟨rfl, rfl, rfl, text_short _⟩)
theorem settle_ch (m : Mc) (many fuel : Nat) : (Im.settle m many fuel).ch = m.ch ∧ (Im.settle m many fuel).pc = m.pc := by
  unfold Im.settle; repeat' split
  all_goals exact ⟨rfl, rfl⟩
/-- what was told, and how much of it -/
structure Told (s : Mc × List (Nat × ByteArray)) : Prop where
  c : (Im.chk s.2).length = s.1.ch
  p : (Im.pcs s.2).length = s.1.pc
  t : ∀ a ∈ s.2, a.2.size ≤ 32
theorem told_nxt {xs : List In} {f : Nat} {s : Mc × List (Nat × ByteArray)} (h : Told s) : Told (Im.nxt xs f s) := by
  by_cases ho : s.1.ov = true
  · unfold Im.nxt; rw [if_pos ho]; exact h
  rw [Bool.not_eq_true] at ho
  rw [nxt_live ho]
  have hd := doM_told (Im.ready s.1) xs[s.1.pl]! xs.length
  have hst : Im.stp xs f s.1 = if (Im.doM (Im.ready s.1) xs[s.1.pl]! xs.length).1 = 0 then (Im.settle (Im.doM (Im.ready s.1) xs[s.1.pl]! xs.length).2.1 xs.length f, (Im.doM (Im.ready s.1) xs[s.1.pl]! xs.length).2.2) else (Im.trapped s.1 (Im.doM (Im.ready s.1) xs[s.1.pl]! xs.length).1, 0, ByteArray.empty) := rfl
  have e2 : (Im.ready s.1).ch = s.1.ch := rfl
  have e3 : (Im.ready s.1).pc = s.1.pc := rfl
  rw [e2, e3] at hd
  generalize Im.doM (Im.ready s.1) xs[s.1.pl]! xs.length = D at *
  by_cases h0 : D.1 = 0
  · rw [if_pos h0] at hst
    have hs := settle_ch D.2.1 xs.length f
    rw [hst]
    dsimp only
    rcases hd h0 with ⟨k1, k2, k3⟩ | ⟨k1, k2, k3, k4⟩ | ⟨k1, k2, k3, k4⟩
    · rw [if_pos k1]
      exact ⟨by show (Im.chk s.2).length = (Im.settle _ _ _).ch; rw [hs.1, k2]; exact h.c, by show (Im.pcs s.2).length = (Im.settle _ _ _).pc; rw [hs.2, k3]; exact h.p, h.t⟩
    · rw [if_neg (by omega)]
      refine ⟨?_, ?_, ?_⟩
      · show (Im.chk (s.2 ++ [D.2.2])).length = (Im.settle _ _ _).ch
        rw [hs.1, k2, chk_app, if_pos k1, List.length_append, h.c]; rfl
      · show (Im.pcs (s.2 ++ [D.2.2])).length = (Im.settle _ _ _).pc
        rw [hs.2, k3, pcs_app, if_pos k1, h.p]
      · intro a ha
        rcases List.mem_append.1 ha with q | q
        · exact h.t a q
        · rw [List.mem_singleton.1 q]; exact k4
    · rw [if_neg (by omega)]
      refine ⟨?_, ?_, ?_⟩
      · show (Im.chk (s.2 ++ [D.2.2])).length = (Im.settle _ _ _).ch
        rw [hs.1, k2, chk_app, if_neg (by omega), h.c]
      · show (Im.pcs (s.2 ++ [D.2.2])).length = (Im.settle _ _ _).pc
        rw [hs.2, k3, pcs_app, if_neg (by omega), List.length_append, h.p]; rfl
      · intro a ha
        rcases List.mem_append.1 ha with q | q
        · exact h.t a q
        · rw [List.mem_singleton.1 q]; exact k4
  · rw [if_neg h0] at hst
    rw [hst]
    dsimp only
    rw [if_pos rfl]
    exact ⟨h.c, h.p, h.t⟩
theorem told_itr (xs : List In) (f : Nat) : ∀ k, Told (Im.itr xs f Im.m0 k)
  | 0 => ⟨rfl, rfl, fun a h => by cases h⟩
  | k + 1 => told_nxt (told_itr xs f k)
theorem itr_add (xs : List In) (f : Nat) (m : Mc) (a : Nat) : ∀ b, Im.itr xs f m (a + b) = ((Im.itr xs f (Im.itr xs f m a).1 b).1, (Im.itr xs f m a).2 ++ (Im.itr xs f (Im.itr xs f m a).1 b).2)
  | 0 => by show Im.itr xs f m a = ((Im.itr xs f m a).1, (Im.itr xs f m a).2 ++ []); rw [List.append_nil]
  | b + 1 => by
    show Im.nxt xs f (Im.itr xs f m (a + b)) = ((Im.nxt xs f (Im.itr xs f (Im.itr xs f m a).1 b)).1, (Im.itr xs f m a).2 ++ (Im.nxt xs f (Im.itr xs f (Im.itr xs f m a).1 b)).2)
    rw [itr_add xs f m a b]
    generalize Im.itr xs f (Im.itr xs f m a).1 b = J
    by_cases ho : J.1.ov = true
    · unfold Im.nxt; rw [if_pos ho, if_pos ho]
    · rw [Bool.not_eq_true] at ho
      rw [nxt_live (s := (J.1, (Im.itr xs f m a).2 ++ J.2)) ho, nxt_live (s := J) ho]
      dsimp only
      by_cases h0 : (Im.stp xs f J.1).2.1 = 0
      · rw [if_pos h0, if_pos h0]
      · rw [if_neg h0, if_neg h0, List.append_assoc]
theorem itr_up (xs : List In) (f : Nat) (m : Mc) : ∀ k, (Im.itr xs f m k).1.dn ≤ m.dn + k
  | 0 => Nat.le_refl _
  | k + 1 => by
    have ih := itr_up xs f m k
    show (Im.nxt xs f (Im.itr xs f m k)).1.dn ≤ _
    by_cases ho : (Im.itr xs f m k).1.ov = true
    · unfold Im.nxt; rw [if_pos ho]; omega
    · rw [Bool.not_eq_true] at ho
      rw [nxt_live ho]
      show (Im.stp xs f _).1.dn ≤ _
      rw [stp_dn]; omega
theorem itr_moves (xs : List In) (f : Nat) (m : Mc) (ho : m.ov = false) (k : Nat) (hk : 0 < k) : m.dn < (Im.itr xs f m k).1.dn := by
  obtain ⟨j, rfl⟩ : ∃ j, k = 1 + j := ⟨k - 1, by omega⟩
  have h1 := itr_dn_le xs f m 1 j
  have h2 : (Im.itr xs f m 1).1.dn = m.dn + 1 := by
    show (Im.nxt xs f (m, [])).1.dn = _
    rw [nxt_live (s := (m, [])) ho]
    exact stp_dn m xs f
  omega
theorem itr_full {xs : List In} {f n : Nat} (hp : Pok f xs) (h : (Im.itr xs f Im.m0 n).1.ov = true) : Im.itr xs f Im.m0 n = Im.end_ xs f := by
  have h0 := m0_ok xs.length f hp.l1 hp.f1
  have ho := itr_ends h0 hp.good f (by show f ≤ 0 + f; omega)
  have e1 := itr_over h f
  have e2 := itr_over ho n
  rw [Nat.add_comm] at e2
  rw [← e1, e2]; rfl
end Go.Proofs.YthjngodkpldpfaaGreatDoor
end

section
namespace Go.Proofs.YthjngodkpldpfaaGreatDoor
open Go.RowKit Go.Shelf

/-- what the document's machine has in its cells, stacks aside -/
structure Dc where
  pl : Nat
  dn : Nat
  R : List Nat
  ch : Nat
  pc : Nat
  ov : Bool
  rc : Nat
  rb : Nat
def Dc.vs (m : Dc) (v nv pv : Value) (fuel : Nat) : List Value :=
  [.int .i64 (fuel : Int), v, .int .i64 (m.pl : Int), .int .i64 (m.dn : Int)] ++ (m.R.map (fun x : Nat => Value.int .u64 (x : Int)) ++ [nv, pv, .int .i64 (m.ch : Int), .int .i64 (m.pc : Int), .bool m.ov, .int .i64 (m.rc : Int), .int .u64 (m.rb : Int)])
theorem Dc.cut {m : Dc} (h : m.R.length = 8) : ∃ r0 r1 r2 r3 r4 r5 r6 r7, m = ⟨m.pl, m.dn, [r0, r1, r2, r3, r4, r5, r6, r7], m.ch, m.pc, m.ov, m.rc, m.rb⟩ := by
  obtain ⟨a, b, c, d, e, f, g, k, hR⟩ := len8 h
  refine ⟨a, b, c, d, e, f, g, k, ?_⟩
  cases m
  simp_all
theorem Dc.g_pl {m : Dc} (h : m.R.length = 8) (v nv pv : Value) (fuel : Nat) : (m.vs v nv pv fuel)[2]? = some (.int .i64 (m.pl : Int)) := by
  obtain ⟨r0, r1, r2, r3, r4, r5, r6, r7, hm⟩ := Dc.cut h
  rw [hm]
  rfl
theorem Dc.s_pl {m : Dc} (h : m.R.length = 8) (v nv pv : Value) (fuel : Nat) (x : Nat) : (m.vs v nv pv fuel).set 2 (.int .i64 (x : Int)) = ({ m with pl := x } : Dc).vs v nv pv fuel := by
  obtain ⟨r0, r1, r2, r3, r4, r5, r6, r7, hm⟩ := Dc.cut h
  rw [hm]
  rfl
theorem Dc.g_dn {m : Dc} (h : m.R.length = 8) (v nv pv : Value) (fuel : Nat) : (m.vs v nv pv fuel)[3]? = some (.int .i64 (m.dn : Int)) := by
  obtain ⟨r0, r1, r2, r3, r4, r5, r6, r7, hm⟩ := Dc.cut h
  rw [hm]
  rfl
theorem Dc.s_dn {m : Dc} (h : m.R.length = 8) (v nv pv : Value) (fuel : Nat) (x : Nat) : (m.vs v nv pv fuel).set 3 (.int .i64 (x : Int)) = ({ m with dn := x } : Dc).vs v nv pv fuel := by
  obtain ⟨r0, r1, r2, r3, r4, r5, r6, r7, hm⟩ := Dc.cut h
  rw [hm]
  rfl
theorem Dc.g_ch {m : Dc} (h : m.R.length = 8) (v nv pv : Value) (fuel : Nat) : (m.vs v nv pv fuel)[14]? = some (.int .i64 (m.ch : Int)) := by
  obtain ⟨r0, r1, r2, r3, r4, r5, r6, r7, hm⟩ := Dc.cut h
  rw [hm]
  rfl
theorem Dc.s_ch {m : Dc} (h : m.R.length = 8) (v nv pv : Value) (fuel : Nat) (x : Nat) : (m.vs v nv pv fuel).set 14 (.int .i64 (x : Int)) = ({ m with ch := x } : Dc).vs v nv pv fuel := by
  obtain ⟨r0, r1, r2, r3, r4, r5, r6, r7, hm⟩ := Dc.cut h
  rw [hm]
  rfl
theorem Dc.g_pc {m : Dc} (h : m.R.length = 8) (v nv pv : Value) (fuel : Nat) : (m.vs v nv pv fuel)[15]? = some (.int .i64 (m.pc : Int)) := by
  obtain ⟨r0, r1, r2, r3, r4, r5, r6, r7, hm⟩ := Dc.cut h
  rw [hm]
  rfl
theorem Dc.s_pc {m : Dc} (h : m.R.length = 8) (v nv pv : Value) (fuel : Nat) (x : Nat) : (m.vs v nv pv fuel).set 15 (.int .i64 (x : Int)) = ({ m with pc := x } : Dc).vs v nv pv fuel := by
  obtain ⟨r0, r1, r2, r3, r4, r5, r6, r7, hm⟩ := Dc.cut h
  rw [hm]
  rfl
theorem Dc.g_ov {m : Dc} (h : m.R.length = 8) (v nv pv : Value) (fuel : Nat) : (m.vs v nv pv fuel)[16]? = some (.bool m.ov) := by
  obtain ⟨r0, r1, r2, r3, r4, r5, r6, r7, hm⟩ := Dc.cut h
  rw [hm]
  rfl
theorem Dc.s_ov {m : Dc} (h : m.R.length = 8) (v nv pv : Value) (fuel : Nat) (x : Bool) : (m.vs v nv pv fuel).set 16 (.bool x) = ({ m with ov := x } : Dc).vs v nv pv fuel := by
  obtain ⟨r0, r1, r2, r3, r4, r5, r6, r7, hm⟩ := Dc.cut h
  rw [hm]
  rfl
theorem Dc.g_rc {m : Dc} (h : m.R.length = 8) (v nv pv : Value) (fuel : Nat) : (m.vs v nv pv fuel)[17]? = some (.int .i64 (m.rc : Int)) := by
  obtain ⟨r0, r1, r2, r3, r4, r5, r6, r7, hm⟩ := Dc.cut h
  rw [hm]
  rfl
theorem Dc.s_rc {m : Dc} (h : m.R.length = 8) (v nv pv : Value) (fuel : Nat) (x : Nat) : (m.vs v nv pv fuel).set 17 (.int .i64 (x : Int)) = ({ m with rc := x } : Dc).vs v nv pv fuel := by
  obtain ⟨r0, r1, r2, r3, r4, r5, r6, r7, hm⟩ := Dc.cut h
  rw [hm]
  rfl
theorem Dc.g_rb {m : Dc} (h : m.R.length = 8) (v nv pv : Value) (fuel : Nat) : (m.vs v nv pv fuel)[18]? = some (.int .u64 (m.rb : Int)) := by
  obtain ⟨r0, r1, r2, r3, r4, r5, r6, r7, hm⟩ := Dc.cut h
  rw [hm]
  rfl
theorem Dc.s_rb {m : Dc} (h : m.R.length = 8) (v nv pv : Value) (fuel : Nat) (x : Nat) : (m.vs v nv pv fuel).set 18 (.int .u64 (x : Int)) = ({ m with rb := x } : Dc).vs v nv pv fuel := by
  obtain ⟨r0, r1, r2, r3, r4, r5, r6, r7, hm⟩ := Dc.cut h
  rw [hm]
  rfl
theorem Dc.g_fuel {m : Dc} (h : m.R.length = 8) (v nv pv : Value) (fuel : Nat) : (m.vs v nv pv fuel)[0]? = some (.int .i64 (fuel : Int)) := by
  obtain ⟨r0, r1, r2, r3, r4, r5, r6, r7, hm⟩ := Dc.cut h
  rw [hm]
  rfl
theorem Dc.g_v {m : Dc} (h : m.R.length = 8) (v nv pv : Value) (fuel : Nat) : (m.vs v nv pv fuel)[1]? = some v := by
  obtain ⟨r0, r1, r2, r3, r4, r5, r6, r7, hm⟩ := Dc.cut h
  rw [hm]
  rfl
theorem Dc.g_nv {m : Dc} (h : m.R.length = 8) (v nv pv : Value) (fuel : Nat) : (m.vs v nv pv fuel)[12]? = some nv := by
  obtain ⟨r0, r1, r2, r3, r4, r5, r6, r7, hm⟩ := Dc.cut h
  rw [hm]
  rfl
theorem Dc.g_pv {m : Dc} (h : m.R.length = 8) (v nv pv : Value) (fuel : Nat) : (m.vs v nv pv fuel)[13]? = some pv := by
  obtain ⟨r0, r1, r2, r3, r4, r5, r6, r7, hm⟩ := Dc.cut h
  rw [hm]
  rfl
theorem Dc.s_nv {m : Dc} (h : m.R.length = 8) (v nv pv : Value) (fuel : Nat) (x : Value) : (m.vs v nv pv fuel).set 12 x = m.vs v x pv fuel := by
  obtain ⟨r0, r1, r2, r3, r4, r5, r6, r7, hm⟩ := Dc.cut h
  rw [hm]
  rfl
theorem Dc.s_pv {m : Dc} (h : m.R.length = 8) (v nv pv : Value) (fuel : Nat) (x : Value) : (m.vs v nv pv fuel).set 13 x = m.vs v nv x fuel := by
  obtain ⟨r0, r1, r2, r3, r4, r5, r6, r7, hm⟩ := Dc.cut h
  rw [hm]
  rfl
theorem Dc.gR {m : Dc} (h : m.R.length = 8) (v nv pv : Value) (fuel : Nat) (i : Nat) (hi : i < 8) : (m.vs v nv pv fuel)[4 + i]? = some (.int .u64 (m.R[i]! : Int)) := by
  obtain ⟨r0, r1, r2, r3, r4, r5, r6, r7, hm⟩ := Dc.cut h
  rw [hm]
  exact match i, hi with
  | 0, _ => rfl
  | 1, _ => rfl
  | 2, _ => rfl
  | 3, _ => rfl
  | 4, _ => rfl
  | 5, _ => rfl
  | 6, _ => rfl
  | 7, _ => rfl
theorem Dc.sR {m : Dc} (h : m.R.length = 8) (v nv pv : Value) (fuel : Nat) (i x : Nat) (hi : i < 8) : (m.vs v nv pv fuel).set (4 + i) (.int .u64 (x : Int)) = ({ m with R := m.R.set i x } : Dc).vs v nv pv fuel := by
  obtain ⟨r0, r1, r2, r3, r4, r5, r6, r7, hm⟩ := Dc.cut h
  rw [hm]
  exact match i, hi with
  | 0, _ => rfl
  | 1, _ => rfl
  | 2, _ => rfl
  | 3, _ => rfl
  | 4, _ => rfl
  | 5, _ => rfl
  | 6, _ => rfl
  | 7, _ => rfl
/-- the document's machine in memory -/
structure Rb (w : World) (B : Nat) (m : Dc) (v nv pv : Value) (fuel : Nat) : Prop where
  blk : w.heap[B]? = some (.cells (m.vs v nv pv fuel).toArray 85 (0, 0))
  r8 : m.R.length = 8
theorem Rb.cell {w : World} {B fuel : Nat} {m : Dc} {v nv pv : Value} (h : Rb w B m v nv pv fuel) {i : Nat} {u : Value} (hi : (m.vs v nv pv fuel)[i]? = some u) : w.cell? ⟨B, i, none⟩ = some u := by
  simp [World.cell?, h.blk, hi]
theorem Rb.z {w : World} {B fuel : Nat} {m : Dc} {v nv pv : Value} (h : Rb w B m v nv pv fuel) (i : Nat) : w.frozen? ⟨B, i, none⟩ = false := by simp [World.frozen?, h.blk]
theorem Rb.lt {w : World} {B fuel : Nat} {m : Dc} {v nv pv : Value} (h : Rb w B m v nv pv fuel) : B < w.heap.size := lt_of_block h.blk
theorem Rb.grown {w w' : World} {B fuel : Nat} {m : Dc} {v nv pv : Value} (h : Rb w B m v nv pv fuel) {r : Option Nat} (g : w.grownBy w' r) (hn : some B ≠ r) : Rb w' B m v nv pv fuel := ⟨(g.block B h.lt hn).trans h.blk, h.r8⟩
theorem Rb.below {w w' : World} {B fuel : Nat} {m : Dc} {v nv pv : Value} (h : Rb w B m v nv pv fuel) {k : Nat} (g : Below k w w') (hn : B < k) : Rb w' B m v nv pv fuel := ⟨(g.block B hn).trans h.blk, h.r8⟩
theorem Rb.set {w : World} {B fuel : Nat} {m m' : Dc} {v nv pv nv' pv' : Value} (h : Rb w B m v nv pv fuel) {i : Nat} {u : Value} (he : (m.vs v nv pv fuel).set i u = m'.vs v nv' pv' fuel) (r8 : m'.R.length = 8) : Rb (w.setCell ⟨B, i, none⟩ u) B m' v nv' pv' fuel := by
  refine ⟨?_, r8⟩
  have hlt := h.lt
  have h' : w.heap[B] = .cells (m.vs v nv pv fuel).toArray 85 (0, 0) := by have := h.blk; simpa [Array.getElem?_eq_getElem hlt] using this
  show (w.heap.modify B _)[B]? = _
  rw [Array.getElem?_eq_getElem (by simpa using hlt), Array.getElem_modify_self, h']
  show some (Obj.cells _ _ _) = _
  rw [← he]
  simp
end Go.Proofs.YthjngodkpldpfaaGreatDoor
end

section
namespace Go.Proofs.YthjngodkpldpfaaGreatDoor
open Go.RowKit Go.Shelf

namespace Im
def xsE : List In := [⟨1, 0, 0, 0, 0, 4609434218613702656⟩, ⟨21, 0, 0, 0, 0, 0⟩, ⟨14, 0, 0, 0, 3, 0⟩]
def t31 : ByteArray := ⟨#[51, 112, 45, 49]⟩
end Im
theorem t31_is : (Im.t31.toList == [51, 112, 45, 49]) = true := by kernel_rfl
theorem xsE_check : Pg.checkE 9 Im.xsE = (0, 0) := by decide
theorem xsE_fits : ∀ x ∈ Im.xsE, x.Fits := by
  intro x hx
  simp only [Im.xsE, List.mem_cons, List.not_mem_nil, or_false] at hx
  rcases hx with rfl | rfl | rfl <;> exact ⟨by decide, by decide, by decide, by decide, by decide, by decide⟩
theorem xsE_pok : Pok 9 Im.xsE := by
  obtain ⟨n, hn, hp⟩ := pok_of (fuel := 9) xsE_fits (by rw [xsE_check])
  obtain rfl : n = 9 := by omega
  exact hp
theorem textE : textB 4609434218613702656 = Im.t31 := by
  have h1 : oN 4609434218613702656 = 3 := by decide
  have h2 : pN 4609434218613702656 = -1 := by decide
  have h3 : clsN 4609434218613702656 = 4 := by decide
  unfold textB
  rw [show Gn.canonW 4609434218613702656 = 4609434218613702656 by decide, if_pos (by decide)]
  unfold amtB
  rw [h3, if_neg (by decide), if_neg (by decide), if_neg (by decide), h1, h2]
  rw [Lib.decDigits_one (by decide), show Lib.itoa (-1) = [45, 49] from by unfold Lib.itoa; rw [if_pos (by decide)]; show 45 :: Lib.decDigits 1 = _; rw [Lib.decDigits_one (by decide)]; rfl]
  rfl
theorem endE : Im.end_ Im.xsE 9 = (⟨3, [4609434218613702656, 0, 0, 0, 0, 0, 0, 0], [0, 0, 0, 0, 0, 0, 0, 0], 0, [0, 0, 0, 0, 0, 0, 0, 0], 0, 3, 1, 0, true, 0⟩, [(1, textB 4609434218613702656)]) := by kernel_rfl
theorem itrE : Im.itr Im.xsE 9 Im.m0 2 = (⟨2, [4609434218613702656, 0, 0, 0, 0, 0, 0, 0], [0, 0, 0, 0, 0, 0, 0, 0], 0, [0, 0, 0, 0, 0, 0, 0, 0], 0, 2, 1, 0, false, 0⟩, [(1, textB 4609434218613702656)]) := by kernel_rfl
theorem stpE : Im.stp Im.xsE 9 ⟨2, [4609434218613702656, 0, 0, 0, 0, 0, 0, 0], [0, 0, 0, 0, 0, 0, 0, 0], 0, [0, 0, 0, 0, 0, 0, 0, 0], 0, 2, 1, 0, false, 0⟩ = (⟨3, [4609434218613702656, 0, 0, 0, 0, 0, 0, 0], [0, 0, 0, 0, 0, 0, 0, 0], 0, [0, 0, 0, 0, 0, 0, 0, 0], 0, 3, 1, 0, true, 0⟩, 0, ByteArray.empty) := by kernel_rfl
theorem cell_of_block {w : World} {Y T i : Nat} {cs : Array Value} {u : Value} (h : w.heap[Y]? = some (.cells cs T (0, 0))) (hi : cs[i]? = some u) : w.cell? ⟨Y, i, none⟩ = some u := by simp [World.cell?, h, hi]
set_option maxHeartbeats 1000000 in
theorem example_any (w : World) : Calls Tryz.prog 33 #[] w fun e w' => ∃ v, e = .returned (.agg #[.int .i64 9, v]) ∧ Cd w' v Im.xsE ∧ Below w.heap.size w w' := by
  go_enter Tryz.func33, Tryz.ntmps33
  go_wp2_with fail
  have b0 := (heap_alloc_old (w.alloc (.cells #[.int .i64 9, .slice (some ⟨w.heap.size + 1, 0, none⟩) 3 3] 24)) (.cells (flatI Im.xsE).toArray 66) (by simp : w.heap.size < _)).trans (heap_alloc_new w _)
  have b1 : ((w.alloc (.cells #[.int .i64 9, .slice (some ⟨w.heap.size + 1, 0, none⟩) 3 3] 24)).alloc (.cells (flatI Im.xsE).toArray 66)).heap[w.heap.size + 1]? = some (.cells (flatI Im.xsE).toArray 66 (0, 0)) := by have q := heap_alloc_new (w.alloc (.cells #[.int .i64 9, .slice (some ⟨w.heap.size + 1, 0, none⟩) 3 3] 24)) (.cells (flatI Im.xsE).toArray 66); rw [World.size_alloc] at q; exact q
  refine bodyPost_ret (results_cell_row (p := 0) (ty := 24) rfl _ _ w.heap.size 24 _ (0, 0) _ rfl b0 Tryz.underlying24 rfl (by kernel_rfl)) rfl ⟨_, rfl, ⟨some ⟨w.heap.size + 1, 0, none⟩, 3, rfl, fun _ => ⟨w.heap.size + 1, 0, rfl, lt_of_block b1, fun j hj i u hi => ?_⟩⟩, (below_one w _).trans ((below_one _ _).mono (by simp))⟩
  have hi6 : i < 6 := by
    rcases Nat.lt_or_ge i 6 with h' | h'
    · exact h'
    · rw [List.getElem?_eq_none (by simpa [In.cs] using h')] at hi; cases hi
  have := flatI_of hj hi6 hi
  rw [Nat.zero_add]
  exact cell_of_block b1 (by rw [List.getElem?_toArray]; exact this)
theorem wholeE (w : World) (v : Value) (h : Cd w v Im.xsE) (hT : Tbs w) : Calls Tryz.prog 17 #[.agg #[.int .i64 9, v]] w fun e w' => ∃ g cap ad cap2, e = .returned (.tuple #[.agg #[.int .i64 0, .int .u64 4609434218613702656, .slice (some ⟨g, 0, none⟩) 1 cap, .slice ad 0 cap2, .int .i64 3], .int .i64 0]) ∧ w'.cell? ⟨g, 0, none⟩ = some (.string Im.t31) ∧ Below w.heap.size w w' := by
  refine (whole_ok xsE_fits h xsE_check xsE_pok hT).mono ?_
  rintro e w' ⟨o, rfl, ⟨cv, pv, rfl, hcv, hpv⟩, hb⟩
  rw [endE] at hcv hpv ⊢
  rw [textE] at hcv hpv
  obtain ⟨g, cap, rfl⟩ := own_some (n := 1) hcv (by decide)
  obtain ⟨ad, cap2, rfl⟩ := rown_slice (n := 0) hpv
  exact ⟨g, cap, ad, cap2, rfl, hcv.cells (g := g) rfl 0 (.string Im.t31) rfl, hb⟩
theorem runE {w : World} {B : Nat} {v : Value} (h : Mb w B Im.m0 v 9) (hC : Cdn w v Im.xsE B) (hE : Env w B) : Calls Tryz.prog 22 #[.pointer (some ⟨B, 0, none⟩), .int .i64 2] w fun e w' => ∃ g cap, e = .returned (.slice (some ⟨g, 0, none⟩) 1 cap) ∧ Mb w' B ⟨2, [4609434218613702656, 0, 0, 0, 0, 0, 0, 0], [0, 0, 0, 0, 0, 0, 0, 0], 0, [0, 0, 0, 0, 0, 0, 0, 0], 0, 2, 1, 0, false, 0⟩ v 9 ∧ w'.cell? ⟨g, 0, none⟩ = some (.int .i64 1) ∧ w'.cell? ⟨g, 1, none⟩ = some (.string Im.t31) ∧ w.heap.size ≤ g ∧ g < w'.heap.size ∧ w.grownBy w' (some B) := by
  refine (run_any (xs := Im.xsE) h (m0_ok 3 9 (by decide) (by decide)) xsE_pok.good hC hE (by decide) (by decide) 2 (by decide)).mono ?_
  rintro e w' ⟨u, rfl, hm, ho, hg⟩
  rw [show Int.toNat 2 = 2 from rfl, itrE] at hm ho
  rw [textE] at ho
  obtain ⟨g, cap, rfl⟩ := own_some (n := 1) ho (by decide)
  exact ⟨g, cap, rfl, hm, ho.cells (g := g) rfl 0 _ rfl, ho.cells (g := g) rfl 1 (.string Im.t31) rfl, (ho.lt g rfl).1, (ho.lt g rfl).2, hg⟩
theorem stepE {w : World} {B : Nat} {v : Value} (h : Mb w B ⟨2, [4609434218613702656, 0, 0, 0, 0, 0, 0, 0], [0, 0, 0, 0, 0, 0, 0, 0], 0, [0, 0, 0, 0, 0, 0, 0, 0], 0, 2, 1, 0, false, 0⟩ v 9) (hC : Cdn w v Im.xsE B) (hE : Env w B) :
    Calls Tryz.prog 29 #[.pointer (some ⟨B, 0, none⟩)] w fun e w' => e = .returned (.tuple #[.agg #[.int .i64 0, .string ⟨#[]⟩], .int .i64 0]) ∧ Mb w' B ⟨3, [4609434218613702656, 0, 0, 0, 0, 0, 0, 0], [0, 0, 0, 0, 0, 0, 0, 0], 0, [0, 0, 0, 0, 0, 0, 0, 0], 0, 3, 1, 0, true, 0⟩ v 9 ∧ w.grownBy w' (some B) := by
  have hk := itr_ok (xs := Im.xsE) (m0_ok 3 9 (by decide) (by decide)) xsE_pok.good (fuel := 9) 2
  rw [itrE] at hk
  refine (step_live (xs := Im.xsE) h rfl hk xsE_pok.good hC hE (by decide) (by decide)).mono ?_
  rintro e w' ⟨rfl, hm, hg⟩
  rw [stpE] at hm ⊢
  exact ⟨rfl, hm, hg⟩
abbrev mE : Mc := ⟨3, [4609434218613702656, 0, 0, 0, 0, 0, 0, 0], [0, 0, 0, 0, 0, 0, 0, 0], 0, [0, 0, 0, 0, 0, 0, 0, 0], 0, 3, 1, 0, true, 0⟩
theorem overE {w : World} {B : Nat} {v : Value} (h : Mb w B mE v 9) : Calls Tryz.prog 20 #[.pointer (some ⟨B, 0, none⟩)] w fun e w' => e = .returned (.bool true) ∧ w' = w := over_any h
theorem doneE {w : World} {B : Nat} {v : Value} (h : Mb w B mE v 9) : Calls Tryz.prog 21 #[.pointer (some ⟨B, 0, none⟩)] w fun e w' => e = .returned (.int .i64 3) ∧ w' = w := done_any h
theorem placeE {w : World} {B : Nat} {v : Value} (h : Mb w B mE v 9) : Calls Tryz.prog 28 #[.pointer (some ⟨B, 0, none⟩)] w fun e w' => e = .returned (.int .i64 3) ∧ w' = w := place_any h
theorem regE {w : World} {B : Nat} {v : Value} (h : Mb w B mE v 9) : Calls Tryz.prog 24 #[.pointer (some ⟨B, 0, none⟩), .int .i64 0] w fun e w' => e = .returned (.int .u64 4609434218613702656) ∧ w' = w := reg_any h 0 (by decide)
theorem resultE {w : World} {B : Nat} {v : Value} (h : Mb w B mE v 9) : Calls Tryz.prog 25 #[.pointer (some ⟨B, 0, none⟩)] w fun e w' => e = .returned (.agg #[.int .i64 0, .int .u64 4609434218613702656]) ∧ Below w.heap.size w w' := result_any h
end Go.Proofs.YthjngodkpldpfaaGreatDoor
end
