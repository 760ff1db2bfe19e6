import Derived.Test.YtkfnedhllfdghaaGreatDoorMgAP
import Derived.Test.YtkfnedhllfdghaaGreatDoorMgAJ

section
namespace Go.Proofs.YtkfnedhllfdghaaGreatDoor
set_option maxRecDepth 20000
open Go.RowKit Go.Shelf

/-- a machine: its place, registers, the two stacks (rows of eight, and how many are on them), what it has done and told, whether it is over, and by which trap -/
structure Mc where
  pl : Nat
  R : List Nat
  S : List Nat
  sn : Nat
  P : List Nat
  pn : Nat
  dn : Nat
  ch : Nat
  pc : Nat
  ov : Bool
  en : Nat
def Mc.vs (m : Mc) (v : Value) (fuel : Nat) : List Value :=
  [v, .int .i64 (fuel : Int), .int .i64 (m.pl : Int)] ++ (m.R.map (fun x : Nat => Value.int .u64 (x : Int)) ++ (m.S.map (fun x : Nat => Value.int .u64 (x : Int)) ++ ([Value.int .i64 (m.sn : Int)] ++ (m.P.map (fun x : Nat => Value.int .i64 (x : Int)) ++ [Value.int .i64 (m.pn : Int), .int .i64 (m.dn : Int), .int .i64 (m.ch : Int), .int .i64 (m.pc : Int), .bool m.ov, .int .i64 (m.en : Int)]))))

namespace Im
def reck (op : Int) (b c : Nat) : Nat :=
  if op = 2 then b else if op = 3 then Gn.addW b c else if op = 4 then Gn.subW b c else if op = 5 then Gn.mulW b c else if op = 6 then Gn.divW b c
  else if op = 7 then minW b c else if op = 8 then maxW b c else if op = 9 then (if ltW b c then ofW 1 else ofW 0) else if op = 10 then ofW (ordW b c)
  else if op = 11 then Gn.negW b else if op = 12 then Gn.absW b else floorW b
/-- what an instruction comes to: a trap, or 0; the machine; what is told -/
def doM (m : Mc) (x : In) (many : Nat) : Nat × Mc × Nat × ByteArray :=
  if x.op = 1 then (0, { m with R := m.R.set x.a.toNat x.k }, 0, ByteArray.empty)
  else if x.op ≤ 13 then (0, { m with R := m.R.set x.a.toNat (reck x.op m.R[x.b.toNat]! m.R[x.c.toNat]!) }, 0, ByteArray.empty)
  else if x.op = 14 then (0, { m with pl := x.n.toNat }, 0, ByteArray.empty)
  else if x.op = 15 then (0, { m with pl := if clsN m.R[x.a.toNat]! = 2 then m.pl else x.n.toNat }, 0, ByteArray.empty)
  else if x.op = 16 then
    if Gn.intOk m.R[x.a.toNat]! = true ∧ 0 ≤ Gn.intV m.R[x.a.toNat]! ∧ Gn.intV m.R[x.a.toNat]! ≤ (many : Int) then (0, { m with pl := (Gn.intV m.R[x.a.toNat]!).toNat }, 0, ByteArray.empty) else (4, m, 0, ByteArray.empty)
  else if x.op = 17 then
    if m.pn = 8 then (2, m, 0, ByteArray.empty) else (0, { m with P := m.P.set m.pn m.pl, pn := m.pn + 1, pl := x.n.toNat }, 0, ByteArray.empty)
  else if x.op = 18 then
    if m.pn = 0 then (3, m, 0, ByteArray.empty) else (0, { m with pn := m.pn - 1, pl := m.P[m.pn - 1]! }, 0, ByteArray.empty)
  else if x.op = 19 then
    if m.sn = 8 then (2, m, 0, ByteArray.empty) else (0, { m with S := m.S.set m.sn m.R[x.a.toNat]!, sn := m.sn + 1 }, 0, ByteArray.empty)
  else if x.op = 20 then
    if m.sn = 0 then (3, m, 0, ByteArray.empty) else (0, { m with sn := m.sn - 1, R := m.R.set x.a.toNat m.S[m.sn - 1]! }, 0, ByteArray.empty)
  else if x.op = 21 then
    if m.ch = 32 then (5, m, 0, ByteArray.empty) else (0, { m with ch := m.ch + 1 }, 1, textB m.R[x.a.toNat]!)
  else if x.op = 22 then
    if m.pc = 16 then (6, m, 0, ByteArray.empty) else (0, { m with pc := m.pc + 1 }, 2, textB m.R[x.a.toNat]!)
  else if x.op = 23 then (7, m, 0, ByteArray.empty)
  else (0, { m with ov := true }, 0, ByteArray.empty)
def settle (m : Mc) (many fuel : Nat) : Mc := if m.ov = true then m else if m.pl = many then { m with ov := true } else if m.dn = fuel then { m with ov := true, en := 1 } else m
/-- the machine that is about to do an instruction -/
def ready (m : Mc) : Mc := { m with dn := m.dn + 1, pl := m.pl + 1 }
def trapped (m : Mc) (t : Nat) : Mc := { m with dn := m.dn + 1, ov := true, en := t }
def stp (xs : List In) (fuel : Nat) (m : Mc) : Mc × Nat × ByteArray :=
  if (doM (ready m) xs[m.pl]! xs.length).1 = 0 then (settle (doM (ready m) xs[m.pl]! xs.length).2.1 xs.length fuel, (doM (ready m) xs[m.pl]! xs.length).2.2)
  else (trapped m (doM (ready m) xs[m.pl]! xs.length).1, 0, ByteArray.empty)
def m0 : Mc := ⟨0, [0, 0, 0, 0, 0, 0, 0, 0], [0, 0, 0, 0, 0, 0, 0, 0], 0, [0, 0, 0, 0, 0, 0, 0, 0], 0, 0, 0, 0, false, 0⟩
/-- a word of a number with the one NaN -/
def Wd (x : Nat) : Prop := x < 18446744073709551616 ∧ Gn.canonW x = x
end Im
/-- what an instruction that may be has -/
structure In.Good (x : In) (many : Nat) : Prop where
  op1 : 1 ≤ x.op
  op2 : x.op ≤ 24
  a0 : 0 ≤ x.a
  a1 : x.a < 8
  b0 : 0 ≤ x.b
  b1 : x.b < 8
  c0 : 0 ≤ x.c
  c1 : x.c < 8
  n0 : 0 ≤ x.n
  n1 : x.n ≤ (many : Int)
  k : Im.Wd x.k
/-- a machine as it may stand among so many instructions -/
structure Mc.Fit (m : Mc) (many fuel : Nat) : Prop where
  lR : m.R.length = 8
  lS : m.S.length = 8
  lP : m.P.length = 8
  wR : ∀ x ∈ m.R, Im.Wd x
  wS : ∀ x ∈ m.S, Im.Wd x
  wP : ∀ x ∈ m.P, x ≤ many
  sn : m.sn ≤ 8
  pn : m.pn ≤ 8
  ch : m.ch ≤ 32
  pc : m.pc ≤ 16
  pl : m.pl ≤ many
  dn : m.dn ≤ fuel
  en : m.en < 10
structure Mc.Ok (m : Mc) (many fuel : Nat) : Prop extends Mc.Fit m many fuel where
  live : m.ov = false → m.pl < many ∧ m.dn < fuel ∧ m.en = 0
  ends : m.en ≠ 0 → m.ov = true

theorem wd_zero : Im.Wd 0 := ⟨by decide, by decide⟩
theorem wd_of (n : Int) : Im.Wd (ofW n) := ⟨ofW_lt n, ofW_canon n⟩
theorem get_wd {l : List Nat} (h : ∀ x ∈ l, Im.Wd x) (i : Nat) : Im.Wd l[i]! := by
  by_cases hi : i < l.length
  · rw [getElem!_pos l i hi]; exact h _ (List.getElem_mem hi)
  · rw [getElem!_neg l i hi]; exact wd_zero
theorem mem_set' {l : List Nat} {i x y : Nat} (h : y ∈ l.set i x) : y ∈ l ∨ y = x := List.mem_or_eq_of_mem_set h
theorem reck_wd (op : Int) (b c : Nat) (hb : Im.Wd b) (hc : Im.Wd c) : Im.Wd (Im.reck op b c) := by
  unfold Im.reck
  repeat' split
  · exact hb
  · exact ⟨Gn.add_lt b c, Gn.canon_add b c⟩
  · exact ⟨Gn.add_lt _ _, Gn.canon_add _ _⟩
  · exact ⟨Gn.mul_lt b c, Gn.canon_mul b c⟩
  · exact ⟨Gn.div_lt b c, Gn.canon_div b c⟩
  · exact ⟨min_lt b c hb.1 hc.1, canon_min b c⟩
  · exact ⟨max_lt b c hb.1 hc.1, canon_max b c⟩
  · exact wd_of _
  · exact wd_of _
  · exact wd_of _
  · exact ⟨Gn.neg_lt b hb.1, canon_idem _⟩
  · exact ⟨Gn.abs_lt b, canon_idem _⟩
  · exact ⟨floor_lt b, canon_floor b hb.1⟩
end Go.Proofs.YtkfnedhllfdghaaGreatDoor
end

section
namespace Go.Proofs.YtkfnedhllfdghaaGreatDoor
set_option maxRecDepth 20000
open Go.RowKit Go.Shelf

theorem Mc.Fit.setR {m : Mc} {many fuel : Nat} (h : m.Fit many fuel) (i x : Nat) (hx : Im.Wd x) : Mc.Fit { m with R := m.R.set i x } many fuel :=
  { h with lR := by simp [h.lR], wR := fun y hy => (mem_set' hy).elim (h.wR y) (fun e => e ▸ hx) }
theorem Mc.Fit.setPl {m : Mc} {many fuel : Nat} (h : m.Fit many fuel) (i : Nat) (hi : i ≤ many) : Mc.Fit { m with pl := i } many fuel := { h with pl := hi }
theorem get_le {l : List Nat} {n : Nat} (h : ∀ x ∈ l, x ≤ n) (i : Nat) : l[i]! ≤ n := by
  by_cases hi : i < l.length
  · rw [getElem!_pos l i hi]; exact h _ (List.getElem_mem hi)
  · rw [getElem!_neg l i hi]; exact Nat.zero_le _
theorem doM_ind {P : Nat × Mc × Nat × ByteArray → Prop} (m : Mc) (x : In) (many : Nat)
    (h1 : x.op = 1 → P (0, { m with R := m.R.set x.a.toNat x.k }, 0, ByteArray.empty))
    (h2 : 1 ≠ x.op ∧ x.op ≤ 13 → P (0, { m with R := m.R.set x.a.toNat (Im.reck x.op m.R[x.b.toNat]! m.R[x.c.toNat]!) }, 0, ByteArray.empty))
    (h3 : x.op = 14 → P (0, { m with pl := x.n.toNat }, 0, ByteArray.empty))
    (h4 : x.op = 15 → P (0, { m with pl := if clsN m.R[x.a.toNat]! = 2 then m.pl else x.n.toNat }, 0, ByteArray.empty))
    (h5 : x.op = 16 ∧ (Gn.intOk m.R[x.a.toNat]! = true ∧ 0 ≤ Gn.intV m.R[x.a.toNat]! ∧ Gn.intV m.R[x.a.toNat]! ≤ (many : Int)) → P (0, { m with pl := (Gn.intV m.R[x.a.toNat]!).toNat }, 0, ByteArray.empty))
    (h6 : x.op = 16 ∧ ¬ (Gn.intOk m.R[x.a.toNat]! = true ∧ 0 ≤ Gn.intV m.R[x.a.toNat]! ∧ Gn.intV m.R[x.a.toNat]! ≤ (many : Int)) → P (4, m, 0, ByteArray.empty))
    (h7 : x.op = 17 ∧ m.pn = 8 → P (2, m, 0, ByteArray.empty))
    (h8 : x.op = 17 ∧ ¬ m.pn = 8 → P (0, { m with P := m.P.set m.pn m.pl, pn := m.pn + 1, pl := x.n.toNat }, 0, ByteArray.empty))
    (h9 : x.op = 18 ∧ m.pn = 0 → P (3, m, 0, ByteArray.empty))
    (h10 : x.op = 18 ∧ ¬ m.pn = 0 → P (0, { m with pn := m.pn - 1, pl := m.P[m.pn - 1]! }, 0, ByteArray.empty))
    (h11 : x.op = 19 ∧ m.sn = 8 → P (2, m, 0, ByteArray.empty))
    (h12 : x.op = 19 ∧ ¬ m.sn = 8 → P (0, { m with S := m.S.set m.sn m.R[x.a.toNat]!, sn := m.sn + 1 }, 0, ByteArray.empty))
    (h13 : x.op = 20 ∧ m.sn = 0 → P (3, m, 0, ByteArray.empty))
    (h14 : x.op = 20 ∧ ¬ m.sn = 0 → P (0, { m with sn := m.sn - 1, R := m.R.set x.a.toNat m.S[m.sn - 1]! }, 0, ByteArray.empty))
    (h15 : x.op = 21 ∧ m.ch = 32 → P (5, m, 0, ByteArray.empty))
    (h16 : x.op = 21 ∧ ¬ m.ch = 32 → P (0, { m with ch := m.ch + 1 }, 1, textB m.R[x.a.toNat]!))
    (h17 : x.op = 22 ∧ m.pc = 16 → P (6, m, 0, ByteArray.empty))
    (h18 : x.op = 22 ∧ ¬ m.pc = 16 → P (0, { m with pc := m.pc + 1 }, 2, textB m.R[x.a.toNat]!))
    (h19 : x.op = 23 → P (7, m, 0, ByteArray.empty))
    (h20 : 13 < x.op ∧ x.op ≠ 14 ∧ x.op ≠ 15 ∧ x.op ≠ 16 ∧ x.op ≠ 17 ∧ x.op ≠ 18 ∧ x.op ≠ 19 ∧ x.op ≠ 20 ∧ x.op ≠ 21 ∧ x.op ≠ 22 ∧ x.op ≠ 23 → P (0, { m with ov := true }, 0, ByteArray.empty)) : P (Im.doM m x many) := by
  unfold Im.doM
  refine iteInduction (motive := P) h1 fun n1 => ?_
  refine iteInduction (motive := P) (fun k => h2 ⟨fun e => n1 e.symm, k⟩) fun n2 => ?_
  refine iteInduction (motive := P) h3 fun n3 => ?_
  refine iteInduction (motive := P) h4 fun n4 => ?_
  refine iteInduction (motive := P) (fun k => iteInduction (motive := P) (fun q => h5 ⟨k, q⟩) (fun q => h6 ⟨k, q⟩)) fun n5 => ?_
  refine iteInduction (motive := P) (fun k => iteInduction (motive := P) (fun q => h7 ⟨k, q⟩) (fun q => h8 ⟨k, q⟩)) fun n6 => ?_
  refine iteInduction (motive := P) (fun k => iteInduction (motive := P) (fun q => h9 ⟨k, q⟩) (fun q => h10 ⟨k, q⟩)) fun n7 => ?_
  refine iteInduction (motive := P) (fun k => iteInduction (motive := P) (fun q => h11 ⟨k, q⟩) (fun q => h12 ⟨k, q⟩)) fun n8 => ?_
  refine iteInduction (motive := P) (fun k => iteInduction (motive := P) (fun q => h13 ⟨k, q⟩) (fun q => h14 ⟨k, q⟩)) fun n9 => ?_
  refine iteInduction (motive := P) (fun k => iteInduction (motive := P) (fun q => h15 ⟨k, q⟩) (fun q => h16 ⟨k, q⟩)) fun n10 => ?_
  refine iteInduction (motive := P) (fun k => iteInduction (motive := P) (fun q => h17 ⟨k, q⟩) (fun q => h18 ⟨k, q⟩)) fun n11 => ?_
  exact iteInduction (motive := P) h19 fun n12 => h20 ⟨by omega, n3, n4, n5, n6, n7, n8, n9, n10, n11, n12⟩
theorem doM_fit {m : Mc} {many fuel : Nat} {x : In} (h : m.Fit many fuel) (g : x.Good many) : (Im.doM m x many).2.1.Fit many fuel := by
  have hn : x.n.toNat ≤ many := by have := g.n0; have := g.n1; omega
  refine doM_ind (P := fun d => d.2.1.Fit many fuel) m x many ?_ ?_ ?_ ?_ ?_ ?_ ?_ ?_ ?_ ?_ ?_ ?_ ?_ ?_ ?_ ?_ ?_ ?_ ?_ ?_
  · exact fun _ => h.setR _ _ g.k
  · exact fun _ => h.setR _ _ (reck_wd _ _ _ (get_wd h.wR _) (get_wd h.wR _))
  · exact fun _ => h.setPl _ hn
  · exact fun _ => h.setPl _ (by split; exact h.pl; exact hn)
  · exact fun hc => h.setPl _ (by have := hc.2.2; omega)
  · exact fun _ => h
  · exact fun _ => h
  · exact fun hc => { h with lP := (by simp [h.lP]), wP := fun y hy => (mem_set' hy).elim (h.wP y) (fun e => e ▸ h.pl), pn := (by have := h.pn; have := hc.2; show m.pn + 1 ≤ 8; omega), pl := hn }
  · exact fun _ => h
  · exact fun _ => { h with pn := (by have := h.pn; show m.pn - 1 ≤ 8; omega), pl := get_le h.wP _ }
  · exact fun _ => h
  · exact fun hc => { h with lS := (by simp [h.lS]), wS := fun y hy => (mem_set' hy).elim (h.wS y) (fun e => e ▸ get_wd h.wR _), sn := (by have := h.sn; have := hc.2; show m.sn + 1 ≤ 8; omega) }
  · exact fun _ => h
  · exact fun _ => { h.setR x.a.toNat _ (get_wd h.wS (m.sn - 1)) with sn := (by have := h.sn; show m.sn - 1 ≤ 8; omega) }
  · exact fun _ => h
  · exact fun hc => { h with ch := (by have := h.ch; have := hc.2; show m.ch + 1 ≤ 32; omega) }
  · exact fun _ => h
  · exact fun hc => { h with pc := (by have := h.pc; have := hc.2; show m.pc + 1 ≤ 16; omega) }
  · exact fun _ => h
  · exact fun _ => { h with }
theorem doM_keeps (m : Mc) (x : In) (many : Nat) : (Im.doM m x many).2.1.dn = m.dn ∧ (Im.doM m x many).2.1.en = m.en ∧ (m.ov = true → (Im.doM m x many).2.1.ov = true) ∧ (Im.doM m x many).1 < 10 := by
  refine doM_ind (P := fun d => d.2.1.dn = m.dn ∧ d.2.1.en = m.en ∧ (m.ov = true → d.2.1.ov = true) ∧ d.1 < 10) m x many ?_ ?_ ?_ ?_ ?_ ?_ ?_ ?_ ?_ ?_ ?_ ?_ ?_ ?_ ?_ ?_ ?_ ?_ ?_ ?_
  all_goals exact fun _ => ⟨rfl, rfl, fun h => (by first | exact h | rfl), (by dsimp only; omega)⟩
theorem ready_fit {m : Mc} {many fuel : Nat} (h : m.Ok many fuel) (ho : m.ov = false) : (Im.ready m).Fit many fuel :=
  { h.toFit with pl := (h.live ho).1, dn := (h.live ho).2.1 }
theorem settle_ok {m : Mc} {many fuel : Nat} (h : m.Fit many fuel) (he : m.en = 0) : (Im.settle m many fuel).Ok many fuel := by
  have hp := h.pl
  have hd := h.dn
  unfold Im.settle
  repeat' split
  · rename_i ho; exact { h with live := fun k => absurd (ho.symm.trans k) (by decide), ends := fun k => absurd he k }
  · exact { h with live := fun k => (by cases k), ends := fun _ => rfl }
  · exact { h with live := fun k => (by cases k), ends := fun _ => rfl, en := by show (1 : Nat) < 10; decide }
  · rename_i h1 h2 h3; exact { h with live := fun k => ⟨by omega, by omega, he⟩, ends := fun k => absurd he k }
theorem settle_dn (m : Mc) (many fuel : Nat) : (Im.settle m many fuel).dn = m.dn := by unfold Im.settle; repeat' split
                                                                                       all_goals rfl
theorem stp_ok {m : Mc} {xs : List In} {fuel : Nat} (h : m.Ok xs.length fuel) (ho : m.ov = false) (g : ∀ x ∈ xs, x.Good xs.length) : (Im.stp xs fuel m).1.Ok xs.length fuel := by
  have hl := h.live ho
  have hx : (xs[m.pl]!).Good xs.length := by rw [getElem!_pos xs m.pl hl.1]; exact g _ (List.getElem_mem hl.1)
  have hk := doM_keeps (Im.ready m) xs[m.pl]! xs.length
  unfold Im.stp
  split
  · exact settle_ok (doM_fit (ready_fit h ho) hx) (hk.2.1.trans hl.2.2)
  · exact { h.toFit with dn := hl.2.1, en := hk.2.2.2, live := fun k => (by cases k), ends := fun _ => rfl }
theorem stp_dn (m : Mc) (xs : List In) (fuel : Nat) : (Im.stp xs fuel m).1.dn = m.dn + 1 := by
  have hk := doM_keeps (Im.ready m) xs[m.pl]! xs.length
  unfold Im.stp
  split
  · rw [settle_dn]; exact hk.1
  · rfl
theorem m0_ok (many fuel : Nat) (h1 : 0 < many) (h2 : 0 < fuel) : Im.m0.Ok many fuel where
  lR := rfl
  lS := rfl
  lP := rfl
  wR := fun x hx => by simp [Im.m0] at hx; subst hx; exact wd_zero
  wS := fun x hx => by simp [Im.m0] at hx; subst hx; exact wd_zero
  wP := fun x hx => by simp [Im.m0] at hx; subst hx; exact Nat.zero_le _
  sn := Nat.zero_le _
  pn := Nat.zero_le _
  ch := Nat.zero_le _
  pc := Nat.zero_le _
  pl := Nat.zero_le _
  dn := Nat.zero_le _
  en := by decide
  live := fun _ => ⟨h1, h2, rfl⟩
  ends := fun h => absurd rfl h
theorem shape_no (op : Int) (h : ¬ (1 ≤ op ∧ op ≤ 24)) : (Pg.shape op).2 = false := by
  have : Pg.tbl.findIdx? (fun s => s.op == op) = none := by
    rw [List.findIdx?_eq_none_iff]
    intro s hs
    have h1 : 1 ≤ s.op ∧ s.op ≤ 24 := (by decide : ∀ s ∈ Pg.tbl, 1 ≤ s.op ∧ s.op ≤ 24) s hs
    rw [beq_eq_false_iff_ne]
    intro e
    subst e
    exact h h1
  unfold Pg.shape Pg.find
  rw [this]
theorem field_zero {fs : ByteArray} {x : In} {many l : Nat} (h : Pg.fieldE fs x many l = 0) : Pg.namedE (Pg.get x l) l many = 0 ∨ Pg.get x l = 0 := by
  unfold Pg.fieldE at h
  split at h
  · exact .inl h
  · unfold Pg.unnamedE at h
    split at h
    · cases h
    · rename_i h1; exact .inr (Decidable.of_not_not h1)
theorem first_zero {fs : ByteArray} {x : In} {many : Nat} : ∀ l : List Nat, Pg.firstE fs x many l = 0 → ∀ c ∈ l, Pg.fieldE fs x many c = 0
  | [], _ => by intro c hc; cases hc
  | d :: r, h => by
    unfold Pg.firstE at h
    split at h
    · rename_i h1; exact absurd h h1
    · rename_i h1
      intro c hc
      rcases List.mem_cons.1 hc with rfl | hc
      · exact Decidable.of_not_not h1
      · exact first_zero r h c hc
/-- what Check takes is good -/
theorem good_of {x : In} {many : Nat} (hm : many < 1000000) (hf : x.Fits) (h : Pg.insE x many = 0) : x.Good many := by
  have ho : 1 ≤ x.op ∧ x.op ≤ 24 := by
    by_cases h1 : 1 ≤ x.op ∧ x.op ≤ 24
    · exact h1
    · unfold Pg.insE at h; rw [if_pos (shape_no x.op h1)] at h; cases h
  unfold Pg.insE at h
  split at h
  · cases h
  have hz := first_zero _ h
  have hA := field_zero (hz 65 (by simp))
  have hB := field_zero (hz 66 (by simp))
  have hC := field_zero (hz 67 (by simp))
  have hN := field_zero (hz 78 (by simp))
  have hK := field_zero (hz 75 (by simp))
  simp only [Pg.namedE, Pg.get, if_true, if_false, Nat.reduceEqDiff] at hA hB hC hN hK
  have r8 : ∀ v : Nat, ((if 8 ≤ v then (52 : Int) else 0) = 0 ∨ v = 0) → v < 8 := fun v hv => by
    rcases hv with hv | hv
    · split at hv
      · cases hv
      · omega
    · omega
  have hA' := r8 _ hA
  have hB' := r8 _ hB
  have hC' := r8 _ hC
  have hN' : Pg.un x.n ≤ many := by
    rcases hN with hv | hv
    · split at hv
      · cases hv
      · omega
    · omega
  have hK' : Im.Wd x.k := by
    refine ⟨hf.k, ?_⟩
    rcases hK with hv | hv
    · split at hv
      · cases hv
      · rename_i h1; exact Decidable.of_not_not h1
    · rw [hv]; decide
  have ha := hf.a
  have hb := hf.b
  have hc := hf.c
  have hn := hf.n
  unfold Pg.un at hA' hB' hC' hN'
  exact ⟨ho.1, ho.2, by omega, by omega, by omega, by omega, by omega, by omega, by omega, by omega, hK'⟩
theorem goE_zeros (many : Nat) : ∀ (xs : List In) (i : Nat), (Pg.goE many xs i).1 = 0 → ∀ x ∈ xs, Pg.insE x many = 0
  | [], _, _ => by intro x hx; cases hx
  | x :: r, i, h => by
    unfold Pg.goE at h
    by_cases hx : Pg.insE x many = 0
    · rw [if_neg (by simp [hx])] at h
      intro y hy
      rcases List.mem_cons.1 hy with rfl | hy
      · exact hx
      · exact goE_zeros many r (i + 1) h y hy
    · rw [if_pos hx] at h
      exact absurd h hx
/-- a program that may be -/
structure Pok (fuel : Nat) (xs : List In) : Prop where
  f1 : 1 ≤ fuel
  f2 : fuel ≤ 1024
  l1 : 1 ≤ xs.length
  l2 : xs.length ≤ 64
  good : ∀ x ∈ xs, x.Good xs.length
theorem pok_of {fuel : Int} {xs : List In} (hf : ∀ x ∈ xs, x.Fits) (h : (Pg.checkE fuel xs).1 = 0) : ∃ n : Nat, fuel = (n : Int) ∧ Pok n xs := by
  unfold Pg.checkE at h
  split at h
  · cases h
  rename_i h1
  split at h
  · cases h
  rename_i h2
  exact ⟨fuel.toNat, by omega, by omega, by omega, by omega, by omega, fun x hx => good_of (by omega) (hf x hx) (goE_zeros _ _ _ h x hx)⟩
theorem goE_ok (many : Nat) : ∀ (xs : List In) (i : Nat), (Pg.goE many xs i).1 = 0 → Pg.goE many xs i = (0, 0)
  | [], _, _ => rfl
  | x :: r, i, h => by
    unfold Pg.goE at h ⊢
    by_cases hx : Pg.insE x many = 0
    · rw [if_neg (by simp [hx])] at h ⊢; exact goE_ok many r (i + 1) h
    · rw [if_pos hx] at h; exact absurd h hx
end Go.Proofs.YtkfnedhllfdghaaGreatDoor
end

section
namespace Go.Proofs.YtkfnedhllfdghaaGreatDoor
set_option maxRecDepth 20000
open Go.RowKit Go.Shelf

theorem len8 {l : List Nat} (h : l.length = 8) : ∃ a b c d e f g k, l = [a, b, c, d, e, f, g, k] := by
  match l, h with
  | [a, b, c, d, e, f, g, k], _ => exact ⟨a, b, c, d, e, f, g, k, rfl⟩
/-- the three rows have eight each -/
structure Mc.L8 (m : Mc) : Prop where
  R : m.R.length = 8
  S : m.S.length = 8
  P : m.P.length = 8
theorem Mc.Fit.l8 {m : Mc} {a b : Nat} (h : m.Fit a b) : m.L8 := ⟨h.lR, h.lS, h.lP⟩
theorem Mc.L8.cut {m : Mc} (h : m.L8) : ∃ r0 r1 r2 r3 r4 r5 r6 r7 s0 s1 s2 s3 s4 s5 s6 s7 p0 p1 p2 p3 p4 p5 p6 p7, m = ⟨m.pl, [r0, r1, r2, r3, r4, r5, r6, r7], [s0, s1, s2, s3, s4, s5, s6, s7], m.sn, [p0, p1, p2, p3, p4, p5, p6, p7], m.pn, m.dn, m.ch, m.pc, m.ov, m.en⟩ := by
  obtain ⟨a, b, c, d, e, f, g, k, hR⟩ := len8 h.R
  obtain ⟨a2, b2, c2, d2, e2, f2, g2, k2, hS⟩ := len8 h.S
  obtain ⟨a3, b3, c3, d3, e3, f3, g3, k3, hP⟩ := len8 h.P
  refine ⟨a, b, c, d, e, f, g, k, a2, b2, c2, d2, e2, f2, g2, k2, a3, b3, c3, d3, e3, f3, g3, k3, ?_⟩
  cases m
  simp_all

theorem Mc.L8.gR {m : Mc} (h : m.L8) (v : Value) (fuel : Nat) (i : Nat) (hi : i < 8) : (m.vs v fuel)[3 + i]? = some (.int .u64 (m.R[i]! : Int)) := by
  obtain ⟨r0, r1, r2, r3, r4, r5, r6, r7, s0, s1, s2, s3, s4, s5, s6, s7, p0, p1, p2, p3, p4, p5, p6, p7, hm⟩ := h.cut
  rw [hm]
  exact match i, hi with
  | 0, _ => rfl
  | 1, _ => rfl
  | 2, _ => rfl
  | 3, _ => rfl
  | 4, _ => rfl
  | 5, _ => rfl
  | 6, _ => rfl
  | 7, _ => rfl
theorem Mc.L8.gRs {m : Mc} (h : m.L8) (v : Value) (fuel : Nat) (i x : Nat) (hi : i < 8) : (m.vs v fuel).set (3 + i) (.int .u64 (x : Int)) = ({ m with R := m.R.set i x } : Mc).vs v fuel := by
  obtain ⟨r0, r1, r2, r3, r4, r5, r6, r7, s0, s1, s2, s3, s4, s5, s6, s7, p0, p1, p2, p3, p4, p5, p6, p7, hm⟩ := h.cut
  rw [hm]
  exact match i, hi with
  | 0, _ => rfl
  | 1, _ => rfl
  | 2, _ => rfl
  | 3, _ => rfl
  | 4, _ => rfl
  | 5, _ => rfl
  | 6, _ => rfl
  | 7, _ => rfl
theorem Mc.L8.gS {m : Mc} (h : m.L8) (v : Value) (fuel : Nat) (i : Nat) (hi : i < 8) : (m.vs v fuel)[11 + i]? = some (.int .u64 (m.S[i]! : Int)) := by
  obtain ⟨r0, r1, r2, r3, r4, r5, r6, r7, s0, s1, s2, s3, s4, s5, s6, s7, p0, p1, p2, p3, p4, p5, p6, p7, hm⟩ := h.cut
  rw [hm]
  exact match i, hi with
  | 0, _ => rfl
  | 1, _ => rfl
  | 2, _ => rfl
  | 3, _ => rfl
  | 4, _ => rfl
  | 5, _ => rfl
  | 6, _ => rfl
  | 7, _ => rfl
theorem Mc.L8.gSs {m : Mc} (h : m.L8) (v : Value) (fuel : Nat) (i x : Nat) (hi : i < 8) : (m.vs v fuel).set (11 + i) (.int .u64 (x : Int)) = ({ m with S := m.S.set i x } : Mc).vs v fuel := by
  obtain ⟨r0, r1, r2, r3, r4, r5, r6, r7, s0, s1, s2, s3, s4, s5, s6, s7, p0, p1, p2, p3, p4, p5, p6, p7, hm⟩ := h.cut
  rw [hm]
  exact match i, hi with
  | 0, _ => rfl
  | 1, _ => rfl
  | 2, _ => rfl
  | 3, _ => rfl
  | 4, _ => rfl
  | 5, _ => rfl
  | 6, _ => rfl
  | 7, _ => rfl
theorem Mc.L8.gP {m : Mc} (h : m.L8) (v : Value) (fuel : Nat) (i : Nat) (hi : i < 8) : (m.vs v fuel)[20 + i]? = some (.int .i64 (m.P[i]! : Int)) := by
  obtain ⟨r0, r1, r2, r3, r4, r5, r6, r7, s0, s1, s2, s3, s4, s5, s6, s7, p0, p1, p2, p3, p4, p5, p6, p7, hm⟩ := h.cut
  rw [hm]
  exact match i, hi with
  | 0, _ => rfl
  | 1, _ => rfl
  | 2, _ => rfl
  | 3, _ => rfl
  | 4, _ => rfl
  | 5, _ => rfl
  | 6, _ => rfl
  | 7, _ => rfl
theorem Mc.L8.gPs {m : Mc} (h : m.L8) (v : Value) (fuel : Nat) (i x : Nat) (hi : i < 8) : (m.vs v fuel).set (20 + i) (.int .i64 (x : Int)) = ({ m with P := m.P.set i x } : Mc).vs v fuel := by
  obtain ⟨r0, r1, r2, r3, r4, r5, r6, r7, s0, s1, s2, s3, s4, s5, s6, s7, p0, p1, p2, p3, p4, p5, p6, p7, hm⟩ := h.cut
  rw [hm]
  exact match i, hi with
  | 0, _ => rfl
  | 1, _ => rfl
  | 2, _ => rfl
  | 3, _ => rfl
  | 4, _ => rfl
  | 5, _ => rfl
  | 6, _ => rfl
  | 7, _ => rfl
theorem Mc.L8.g_sn {m : Mc} (h : m.L8) (v : Value) (fuel : Nat) : (m.vs v fuel)[19]? = some (.int .i64 (m.sn : Int)) := by
  obtain ⟨r0, r1, r2, r3, r4, r5, r6, r7, s0, s1, s2, s3, s4, s5, s6, s7, p0, p1, p2, p3, p4, p5, p6, p7, hm⟩ := h.cut
  rw [hm]
  rfl
theorem Mc.L8.s_sn {m : Mc} (h : m.L8) (v : Value) (fuel : Nat) (x : Nat) : (m.vs v fuel).set 19 (.int .i64 (x : Int)) = ({ m with sn := x } : Mc).vs v fuel := by
  obtain ⟨r0, r1, r2, r3, r4, r5, r6, r7, s0, s1, s2, s3, s4, s5, s6, s7, p0, p1, p2, p3, p4, p5, p6, p7, hm⟩ := h.cut
  rw [hm]
  rfl
theorem Mc.L8.g_pn {m : Mc} (h : m.L8) (v : Value) (fuel : Nat) : (m.vs v fuel)[28]? = some (.int .i64 (m.pn : Int)) := by
  obtain ⟨r0, r1, r2, r3, r4, r5, r6, r7, s0, s1, s2, s3, s4, s5, s6, s7, p0, p1, p2, p3, p4, p5, p6, p7, hm⟩ := h.cut
  rw [hm]
  rfl
theorem Mc.L8.s_pn {m : Mc} (h : m.L8) (v : Value) (fuel : Nat) (x : Nat) : (m.vs v fuel).set 28 (.int .i64 (x : Int)) = ({ m with pn := x } : Mc).vs v fuel := by
  obtain ⟨r0, r1, r2, r3, r4, r5, r6, r7, s0, s1, s2, s3, s4, s5, s6, s7, p0, p1, p2, p3, p4, p5, p6, p7, hm⟩ := h.cut
  rw [hm]
  rfl
theorem Mc.L8.g_dn {m : Mc} (h : m.L8) (v : Value) (fuel : Nat) : (m.vs v fuel)[29]? = some (.int .i64 (m.dn : Int)) := by
  obtain ⟨r0, r1, r2, r3, r4, r5, r6, r7, s0, s1, s2, s3, s4, s5, s6, s7, p0, p1, p2, p3, p4, p5, p6, p7, hm⟩ := h.cut
  rw [hm]
  rfl
theorem Mc.L8.s_dn {m : Mc} (h : m.L8) (v : Value) (fuel : Nat) (x : Nat) : (m.vs v fuel).set 29 (.int .i64 (x : Int)) = ({ m with dn := x } : Mc).vs v fuel := by
  obtain ⟨r0, r1, r2, r3, r4, r5, r6, r7, s0, s1, s2, s3, s4, s5, s6, s7, p0, p1, p2, p3, p4, p5, p6, p7, hm⟩ := h.cut
  rw [hm]
  rfl
theorem Mc.L8.g_ch {m : Mc} (h : m.L8) (v : Value) (fuel : Nat) : (m.vs v fuel)[30]? = some (.int .i64 (m.ch : Int)) := by
  obtain ⟨r0, r1, r2, r3, r4, r5, r6, r7, s0, s1, s2, s3, s4, s5, s6, s7, p0, p1, p2, p3, p4, p5, p6, p7, hm⟩ := h.cut
  rw [hm]
  rfl
theorem Mc.L8.s_ch {m : Mc} (h : m.L8) (v : Value) (fuel : Nat) (x : Nat) : (m.vs v fuel).set 30 (.int .i64 (x : Int)) = ({ m with ch := x } : Mc).vs v fuel := by
  obtain ⟨r0, r1, r2, r3, r4, r5, r6, r7, s0, s1, s2, s3, s4, s5, s6, s7, p0, p1, p2, p3, p4, p5, p6, p7, hm⟩ := h.cut
  rw [hm]
  rfl
theorem Mc.L8.g_pc {m : Mc} (h : m.L8) (v : Value) (fuel : Nat) : (m.vs v fuel)[31]? = some (.int .i64 (m.pc : Int)) := by
  obtain ⟨r0, r1, r2, r3, r4, r5, r6, r7, s0, s1, s2, s3, s4, s5, s6, s7, p0, p1, p2, p3, p4, p5, p6, p7, hm⟩ := h.cut
  rw [hm]
  rfl
theorem Mc.L8.s_pc {m : Mc} (h : m.L8) (v : Value) (fuel : Nat) (x : Nat) : (m.vs v fuel).set 31 (.int .i64 (x : Int)) = ({ m with pc := x } : Mc).vs v fuel := by
  obtain ⟨r0, r1, r2, r3, r4, r5, r6, r7, s0, s1, s2, s3, s4, s5, s6, s7, p0, p1, p2, p3, p4, p5, p6, p7, hm⟩ := h.cut
  rw [hm]
  rfl
theorem Mc.L8.g_ov {m : Mc} (h : m.L8) (v : Value) (fuel : Nat) : (m.vs v fuel)[32]? = some (.bool m.ov) := by
  obtain ⟨r0, r1, r2, r3, r4, r5, r6, r7, s0, s1, s2, s3, s4, s5, s6, s7, p0, p1, p2, p3, p4, p5, p6, p7, hm⟩ := h.cut
  rw [hm]
  rfl
theorem Mc.L8.s_ov {m : Mc} (h : m.L8) (v : Value) (fuel : Nat) (x : Bool) : (m.vs v fuel).set 32 (.bool x) = ({ m with ov := x } : Mc).vs v fuel := by
  obtain ⟨r0, r1, r2, r3, r4, r5, r6, r7, s0, s1, s2, s3, s4, s5, s6, s7, p0, p1, p2, p3, p4, p5, p6, p7, hm⟩ := h.cut
  rw [hm]
  rfl
theorem Mc.L8.g_en {m : Mc} (h : m.L8) (v : Value) (fuel : Nat) : (m.vs v fuel)[33]? = some (.int .i64 (m.en : Int)) := by
  obtain ⟨r0, r1, r2, r3, r4, r5, r6, r7, s0, s1, s2, s3, s4, s5, s6, s7, p0, p1, p2, p3, p4, p5, p6, p7, hm⟩ := h.cut
  rw [hm]
  rfl
theorem Mc.L8.s_en {m : Mc} (h : m.L8) (v : Value) (fuel : Nat) (x : Nat) : (m.vs v fuel).set 33 (.int .i64 (x : Int)) = ({ m with en := x } : Mc).vs v fuel := by
  obtain ⟨r0, r1, r2, r3, r4, r5, r6, r7, s0, s1, s2, s3, s4, s5, s6, s7, p0, p1, p2, p3, p4, p5, p6, p7, hm⟩ := h.cut
  rw [hm]
  rfl
theorem Mc.L8.g_pl {m : Mc} (h : m.L8) (v : Value) (fuel : Nat) : (m.vs v fuel)[2]? = some (.int .i64 (m.pl : Int)) := by
  obtain ⟨r0, r1, r2, r3, r4, r5, r6, r7, s0, s1, s2, s3, s4, s5, s6, s7, p0, p1, p2, p3, p4, p5, p6, p7, hm⟩ := h.cut
  rw [hm]
  rfl
theorem Mc.L8.s_pl {m : Mc} (h : m.L8) (v : Value) (fuel : Nat) (x : Nat) : (m.vs v fuel).set 2 (.int .i64 (x : Int)) = ({ m with pl := x } : Mc).vs v fuel := by
  obtain ⟨r0, r1, r2, r3, r4, r5, r6, r7, s0, s1, s2, s3, s4, s5, s6, s7, p0, p1, p2, p3, p4, p5, p6, p7, hm⟩ := h.cut
  rw [hm]
  rfl

/-- a machine in memory -/
structure Mb (w : World) (B : Nat) (m : Mc) (v : Value) (fuel : Nat) : Prop where
  blk : w.heap[B]? = some (.cells (m.vs v fuel).toArray 204 (0, 0))
  l8 : m.L8
theorem Mb.cell {w : World} {B fuel : Nat} {m : Mc} {v : Value} (h : Mb w B m v fuel) {i : Nat} {u : Value} (hi : (m.vs v fuel)[i]? = some u) : w.cell? ⟨B, i, none⟩ = some u := by
  simp [World.cell?, h.blk, hi]
theorem Mb.z {w : World} {B fuel : Nat} {m : Mc} {v : Value} (h : Mb w B m v fuel) (i : Nat) : w.frozen? ⟨B, i, none⟩ = false := by simp [World.frozen?, h.blk]
theorem Mb.lt {w : World} {B fuel : Nat} {m : Mc} {v : Value} (h : Mb w B m v fuel) : B < w.heap.size := lt_of_block h.blk
theorem Mb.grown {w w' : World} {B fuel : Nat} {m : Mc} {v : Value} (h : Mb w B m v fuel) {r : Option Nat} (g : w.grownBy w' r) (hn : some B ≠ r) : Mb w' B m v fuel := ⟨(g.block B h.lt hn).trans h.blk, h.l8⟩
theorem Mb.below {w w' : World} {B fuel : Nat} {m : Mc} {v : Value} (h : Mb w B m v fuel) {k : Nat} (g : Below k w w') (hn : B < k) : Mb w' B m v fuel := ⟨(g.block B hn).trans h.blk, h.l8⟩
theorem Mb.set {w : World} {B fuel : Nat} {m m' : Mc} {v : Value} (h : Mb w B m v fuel) {i : Nat} {u : Value} (he : (m.vs v fuel).set i u = m'.vs v fuel) (l8 : m'.L8) : Mb (w.setCell ⟨B, i, none⟩ u) B m' v fuel := by
  refine ⟨?_, l8⟩
  have hlt := h.lt
  have h' : w.heap[B] = .cells (m.vs v fuel).toArray 204 (0, 0) := by have := h.blk; simpa [Array.getElem?_eq_getElem hlt] using this
  show (w.heap.modify B _)[B]? = _
  rw [Array.getElem?_eq_getElem (by simpa using hlt), Array.getElem_modify_self, h']
  show some (Obj.cells _ _ _) = _
  rw [← he]
  simp
end Go.Proofs.YtkfnedhllfdghaaGreatDoor
end
