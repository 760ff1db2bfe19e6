import Derived.Test.YtkfnedhllfdghaaGreatDoorMgBG

section
namespace Go.Proofs.YtkfnedhllfdghaaGreatDoor.RN
open Go.RowKit Go.Shelf
set_option maxRecDepth 20000

/-- what is said: from whom, to which node, which bytes -/
structure Dg where
  n : Int
  l : Int
  tn : Int
  data : ByteArray
def Dg.cs (d : Dg) : List Value := [.int .i64 0, .int .i64 d.n, .int .i64 d.l, .int .i64 d.tn, .int .i64 0, .string d.data]
def dgs (l : List Dg) : List Value := l.flatMap Dg.cs
theorem dgs_app (l m : List Dg) : dgs (l ++ m) = dgs l ++ dgs m := List.flatMap_append
theorem dgs_one (d : Dg) : dgs [d] = d.cs := by simp [dgs]
def Rn.dg (r : Rn) (tn : Int) (m : W.Wr.Ms) : Dg := ⟨2 + (r.sl : Int), (r.li : Int), tn, W.encB m⟩
/-- a message, as wire's texts have it -/
def msOf (m : SE.Sm) : W.Wr.Ms := ⟨m.k, m.se, m.nu, m.jo, m.ba, m.ix, m.co, m.rc, m.rb, m.tx, m.pr⟩
theorem msOf_c (m : SE.Sm) : SE.smC m = W.msgC (msOf m) := rfl
/-- a job behind its instructions -/
def Rn.rk (r : Rn) (j : Jb) : Jb := (reck (r.who j) r.qu j r.T).1
/-- what a job says -/
def Rn.jout (r : Rn) (j : Jb) : List Dg := ((r.rk j).lg.its.map (r.rk j).cm).map (r.dg 0) ++ ((r.rk j).ar.its.map (r.rk j).pm).map (r.dg 1)
/-- behind the job's part of a step -/
def Rn.mid (r : Rn) : Rn := match r.j with
  | none => r
  | some j => { r with j := some { r.rk j with lg := (r.rk j).lg.due, ar := (r.rk j).ar.due }, T := (reck (r.who j) r.qu j r.T).2 }
def Rn.out1 (r : Rn) : List Dg := match r.j with
  | none => []
  | some j => r.jout j
def Rn.ask1 (r : Rn) : Rn := { r with c := r.asked }
/-- behind a step -/
def Rn.stp (r : Rn) : Rn := { r.mid.ask1 with c := r.mid.ask1.c.due.c }
def Rn.out2 (r : Rn) : List Dg := if r.mid.ask1.c.due.is = true then [r.dg 0 (msOf r.mid.ask1.c.due.m)] else []
/-- what a step says -/
def Rn.out (r : Rn) : List Dg := r.out1 ++ r.out2
theorem infoDg : (Tryz.prog.info? 94).map (fun i => (i.zero, i.size, i.bytes)) = some (some (.agg #[.int .i64 0, .int .i64 0, .int .i64 0, .int .i64 0, .int .i64 0, .string ByteArray.empty]), 6, 56) := by kernel_rfl
theorem Rm.row_apart {w : World} {a : RA} {r : Rn} {B n sz : Nat} {t : TypeId} {v : Value} {xs : List Value} (h : Rm w a r) (ho : w.ownsRow B t sz v n xs)
    (t1 : t ≠ 84) (t2 : t ≠ 105) (t3 : t ≠ 98) (h1 : t ≠ 126) (h2 : t ≠ 204) (h3 : t ≠ 170) (h4 : t ≠ 189) (h5 : t ≠ 9) {k : Nat} (hk : v.ownBlock = some k) :
    (∀ i, ¬ a.g r k i) ∧ ∀ i, a.d r k i → k = 2 ∨ k = 3 := by
  obtain ⟨cs, hc⟩ := own_blk ho hk
  have hd : ∀ i, a.d r k i → k = 2 ∨ k = 3 := by
    rintro i (e | e | e | ⟨j, hj, e⟩ | e | e)
    · exact absurd e (CH.blk_ne hc h.rb t1)
    · exact absurd e (CH.blk_ne hc h.cb t2)
    · exact absurd rfl (h.told_ne hc t3 e)
    · exact absurd e (h.jno hj hc h1 h2 h3 h4 h5)
    · exact .inl e
    · exact .inr e
  refine ⟨fun i hi => ?_, hd⟩
  have hcl := h.cl k i hi
  rcases hd i (RA.g_d hi) with e | e
  · exact hcl.1 e
  · exact hcl.2 e
/-- a step under way: the runner, and what was said so far -/
structure Sp (w : World) (a a2 : RA) (r r2 : Rn) (u : Value) (l : List Dg) (V : World) : Prop where
  st : St w a r V a2 r2
  ow : V.ownsRow w.heap.size 94 6 u l.length (dgs l)
section
variable {w : World} {a a2 : RA} {r r2 : Rn} {u : Value} {l : List Dg} {V V' : World}
theorem Sp.up (h : Sp w a a2 r r2 u l V) (hb : Below V.heap.size V V') : Sp w a a2 r r2 u l V' := ⟨h.st.low hb, CH.own_below h.ow hb⟩
theorem Sp.call {a3 : RA} {r3 : Rn} (h : Sp w a a2 r r2 u l V) (hs : St V a2 r2 V' a3 r3) : Sp w a a3 r r3 u l V' :=
  ⟨h.st.trans hs, CH.own_keep h.ow (fun k hk => hs.kp.block k (h.ow.lt k hk).2 ((h.st.rm.row_apart h.ow (by decide) (by decide) (by decide) (by decide) (by decide) (by decide) (by decide) (by decide) hk).1))⟩
theorem Sp.low64 (h : St w a r V a2 r2) (h0 : Tbs w) {k : Nat} (hk : w.heap.size ≤ k) : k ≠ 2 ∧ k ≠ 3 := by
  have := h.kp.size
  have h1 := h0.lt64
  have h2 := h0.lt10
  omega
theorem Sp.app {v : Value} {d : Dg} (h : Sp w a a2 r r2 u l V) (h0 : Tbs w) (hg : V.grownBy V' u.ownBlock) (ho : V'.ownsRow w.heap.size 94 6 v (l.length + 1) (dgs l ++ d.cs)) : Sp w a a2 r r2 v (l ++ [d]) V' := by
  have kp : Kp (fun b _ => u.ownBlock = some b) V V' := ⟨hg.os, hg.tape, hg.output, hg.size, fun k hk hn => hg.block k hk (fun e => hn 0 e.symm), fun k hk _ hn => World.cell?_of_block (hg.block k hk (fun e => hn e.symm)), fun k cur hc => ⟨cur, (hg.block k (lt_of_block hc) (fun e => by
    obtain ⟨cs', hd⟩ := own_blk h.ow e.symm
    exact CH.blk_ne hc hd (by decide) rfl)).trans hc, rfl⟩⟩
  have hap : ∀ b i, a2.d r2 b i → ¬ u.ownBlock = some b := fun b i hd e => by
    have h1 := (h.st.rm.row_apart h.ow (by decide) (by decide) (by decide) (by decide) (by decide) (by decide) (by decide) (by decide) e).2 i hd
    have h2 := Sp.low64 h.st h0 (h.ow.lt b e).1
    rcases h1 with h1 | h1
    · exact h2.1 h1
    · exact h2.2 h1
  refine ⟨⟨h.st.rm.kp kp hap, h.st.R, h.st.C, h.st.kp.trans kp (fun b i e => .inr (h.ow.lt b e).1), h.st.g, h.st.d⟩, ?_⟩
  rw [List.length_append, dgs_app, dgs_one]
  exact ho
end
theorem mcs_get (T : List W.Wr.Ms) (i k : Nat) (hi : i < T.length) (hk : k < 11) : (mcs T)[i * 11 + k]? = ((W.msgC T[i]).toList)[k]? := by
  induction T generalizing i with
  | nil => exact absurd hi (Nat.not_lt_zero _)
  | cons d l ih =>
    cases i with
    | zero => simp only [mcs, List.flatMap_cons]; rw [Nat.zero_mul, Nat.zero_add, List.getElem?_append_left (by show k < 11; exact hk)]; rfl
    | succ i =>
      simp only [mcs, List.flatMap_cons]
      rw [List.getElem?_append_right (by show 11 ≤ _; omega)]
      have e : (i + 1) * 11 + k - (W.msgC d).toList.length = i * 11 + k := by show (i + 1) * 11 + k - 11 = _; omega
      rw [e]
      exact ih i (by simpa using hi)
/-- messages in a row -/
theorem own_msgs {w : World} {base cap N : Nat} {ad : Option Addr} {T : List W.Wr.Ms} (hN : T.length = N) (h : w.ownsRow base 67 11 (.slice ad N cap) N (mcs T)) (i : Nat) (hi : i < N) :
    ∃ g m, T[i]? = some m ∧ ad = some ⟨g, 0, none⟩ ∧ g < w.heap.size ∧ ∀ k, k < 11 → w.cell? ⟨g, i * 11 + k, none⟩ = ((W.msgC m).toList)[k]? := by
  subst hN
  obtain ⟨g, cap', cur, e, _, hg, _⟩ := CH.own_form h (by omega)
  injection e with e _ _
  subst e
  refine ⟨g, T[i], List.getElem?_eq_getElem hi, rfl, lt_of_block hg, fun k hk => ?_⟩
  have h1 := mcs_get T i k hi hk
  have h2 : ∃ u, ((W.msgC T[i]).toList)[k]? = some u := ⟨_, List.getElem?_eq_getElem (by show k < 11; exact hk)⟩
  obtain ⟨u, hu⟩ := h2
  have k1 := h.cells (g := g) rfl _ _ (h1.trans hu)
  rw [Addr.add_lit, Nat.zero_add] at k1
  rw [k1, hu]
theorem jp_ptr (a : JA) (o : Option Jb) : ∃ p, jp a o = .pointer p ∧ (o = none → p = none) ∧ (∀ j, o = some j → p = some ⟨a.J, 0, none⟩) := by
  cases o with
  | none => exact ⟨none, rfl, (fun _ => rfl), (fun _ h => by cases h)⟩
  | some j => exact ⟨some ⟨a.J, 0, none⟩, rfl, (fun h => by cases h), (fun _ _ => rfl)⟩
theorem resB_lt {m : Mc} {a b : Nat} (h : m.Ok a b) : Im.resB m < 18446744073709551616 := by
  unfold Im.resB
  split
  · exact (get_wd h.wR 0).1
  · decide
theorem rq_rb {j : Jb} (h : j.ok) : j.rq.rb < 18446744073709551616 := by
  unfold Jb.rq
  split
  · exact resB_lt h.m
  · show (0 : Nat) < _
    decide
theorem ask_rb {c : SE.Cl} {m : SE.Sm} (h : c.m.rb < 18446744073709551616) (hm : m.rb < 18446744073709551616) : (c.ask m).c.m.rb < 18446744073709551616 := by
  unfold SE.Cl.ask
  split
  · exact h
  split
  · exact h
  split
  · exact h
  · exact hm
theorem hello_rb {c : SE.Cl} (h : c.m.rb < 18446744073709551616) : c.hello.c.m.rb < 18446744073709551616 := by
  unfold SE.Cl.hello
  split
  · show (0 : Nat) < _
    decide
  · exact h
theorem Rn.asked_ok {r : Rn} (h : r.ok) : r.asked.ok ∧ r.asked.m.rb < 18446744073709551616 := by
  unfold Rn.asked
  split
  · exact ⟨h.c, h.cb⟩
  split
  · exact ⟨SE.Cl.hello_ok h.c, hello_rb h.cb⟩
  split
  · exact ⟨SE.Cl.ask_ok h.c _, ask_rb h.cb (by show (0 : Nat) < _; decide)⟩
  · rename_i j hj
    exact ⟨SE.Cl.ask_ok h.c _, ask_rb h.cb (rq_rb (h.j j hj))⟩
theorem Rn.ask1_ok {r : Rn} (h : r.ok) : r.ask1.ok := ⟨h.s8, h.l1, h.w1, h.w8, h.r1, h.r2, h.q1, h.q2, (Rn.asked_ok h).1, (Rn.asked_ok h).2, h.j⟩
theorem Rn.mid_ok {r : Rn} (h : r.ok) : r.mid.ok := by
  unfold Rn.mid
  split
  · exact h
  · rename_i j hj
    have hk := reck_ok (r.who j) r.qu j r.T (h.j j hj)
    exact ⟨h.s8, h.l1, h.w1, h.w8, h.r1, h.r2, h.q1, h.q2, h.c, h.cb, fun k e => by cases e; exact ⟨hk.p, hk.m, CH.Sn.due_ok hk.lg, CH.Sn.due_ok hk.ar⟩⟩
theorem due_rb {c : SE.Cl} (h : c.m.rb < 18446744073709551616) : c.due.m.rb < 18446744073709551616 ∧ c.due.c.m.rb < 18446744073709551616 := by
  unfold SE.Cl.due
  split
  · exact ⟨by show (0 : Nat) < _; decide, h⟩
  split
  · exact ⟨by show (0 : Nat) < _; decide, h⟩
  · exact ⟨h, h⟩
theorem Rn.stp_ok {r : Rn} (h : r.ok) : r.stp.ok := by
  have h1 := Rn.ask1_ok (Rn.mid_ok h)
  exact ⟨h1.s8, h1.l1, h1.w1, h1.w8, h1.r1, h1.r2, h1.q1, h1.q2, SE.Cl.due_ok h1.c, (due_rb h1.cb).2, h1.j⟩
theorem Rn.mid_sl (r : Rn) : r.mid.sl = r.sl ∧ r.mid.li = r.li := by
  unfold Rn.mid
  split <;> exact ⟨rfl, rfl⟩
set_option maxHeartbeats 16000000 in
theorem step_any {w : World} {a : RA} {r : Rn} (h : Rm w a r) (hk : r.ok) (hT : r.T.length ≤ 1000000000) :
    Calls Tryz.prog 19 #[.pointer (some ⟨a.R, 0, none⟩)] w fun e w' => ∃ v a', e = .returned v ∧ w'.ownsRow w.heap.size 94 6 v r.out.length (dgs r.out) ∧ St w a r w' a' r.stp := by
  obtain ⟨iD, hiD, zD0, zD1, zD2⟩ := CH.info_parts infoDg
  have HH := hide h
  have HK := hide hk
  have HTb := hide h.tb
  have c6 := h.c6
  have HT := hide hT
  have h8 := hk.s8
  clear h hk hT
  obtain ⟨pj, hp0, hp1, hp2⟩ := jp_ptr a.ja r.j
  rw [hp0] at c6
  have HP1 := hide hp1
  have HP2 := hide hp2
  clear hp0 hp1 hp2
  go_enter Tryz.func19, Tryz.ntmps19
  go_upto_if 14 with fail
  go_cut [3] (fun u V => Hid (∃ a2, Sp w a a2 r r.mid u r.out1 V ∧ r.out1.length ≤ 64))
  case first =>
    cases hj : r.j with
    | none =>
      have e0 := HP1.out hj
      subst e0
      have e1 : r.mid = r := by unfold Rn.mid; rw [hj]
      have e2 : r.out1 = [] := by unfold Rn.out1; rw [hj]
      have HF : Hid (∃ a2, Sp w a a2 r r.mid (.slice none 0 0) r.out1 w ∧ r.out1.length ≤ 64) := hide (by rw [e1, e2]; exact ⟨a, ⟨St.refl HH.out, World.ownsRow_nil _ _ _ _⟩, Nat.zero_le _⟩)
      clear e1 e2 hj
      go_wp2_with fail
      go_meet
      exact HF
    | some j =>
      have e0 := HP2.out j hj
      subst e0
      have HRe := hide (reckon_any HH.out HK.out hj HT.out)
      have HOk1 : Hid (r.rk j).ok := hide (reck_ok _ _ _ _ (HK.out.j j hj))
      have HMid : Hid (r.mid = { r with j := some { r.rk j with lg := (r.rk j).lg.due, ar := (r.rk j).ar.due }, T := (reck (r.who j) r.qu j r.T).2 }) := hide (by unfold Rn.mid; rw [hj])
      have HOut : Hid (r.out1 = r.jout j) := hide (by unfold Rn.out1; rw [hj])
      clear hj c6
      go_wp2_with fail
      refine HRe.out.mono ?_
      rintro e w1 ⟨rfl, a1, hs1⟩
      have HS1 : Hid (St w a r w1 a1 { r with j := some (r.rk j), T := (reck (r.who j) r.qu j r.T).2 }) := hide hs1
      have c6 := hs1.rm.c6
      rw [hs1.R] at c6
      replace c6 : w1.cell? ⟨a.R, 6, none⟩ = some (.pointer (some ⟨a1.ja.J, 0, none⟩)) := c6
      have HDC := hide (dueC_any (HS1.out.rm.j _ rfl) HOk1.out)
      clear hs1 HRe
      generalize (reck (r.who j) r.qu j r.T).2 = T1 at *
      obtain ⟨j1, hj1⟩ : ∃ j1, r.rk j = j1 := ⟨_, rfl⟩
      have HJ1 := hide hj1
      rw [hj1] at HS1 HDC HOk1 HMid
      clear hj1
      have h321 := its_32 HOk1.out.lg
      have h322 := its_32 HOk1.out.ar
      go_wp2_with fail
      refine HDC.out.mono ?_
      rintro e w2 ⟨v2, rfl, hrow2, hjs2⟩
      obtain ⟨ad2, cap2, hv2⟩ := CH.own_slice hrow2
      subst hv2
      have HS2 : Hid (St w a r w2 a1 { r with j := some { j1 with lg := j1.lg.due }, T := T1 }) := hide (HS1.out.trans (St.job HS1.out.rm rfl hjs2))
      have hw12 : w1.heap.size ≤ w2.heap.size := hjs2.kp.size
      have hw01 : w.heap.size ≤ w1.heap.size := HS1.out.kp.size
      have HSp2 : Hid (Sp w a a1 r { r with j := some { j1 with lg := j1.lg.due }, T := T1 } (.slice none 0 0) [] w2) := hide ⟨HS2.out, World.ownsRow_nil _ _ _ _⟩
      clear hjs2 HDC c6
      obtain ⟨ms, hms⟩ : ∃ ms, j1.lg.its.map j1.cm = ms := ⟨_, rfl⟩
      have hln : j1.lg.its.length = ms.length := by rw [← hms, List.length_map]
      have HRb : Hid (∀ m ∈ ms, m.rb < 18446744073709551616) := hide fun m hm => by
        rw [← hms] at hm
        obtain ⟨p, _, rfl⟩ := List.mem_map.1 hm
        show (0 : Nat) < _
        decide
      have HMs := hide hms
      obtain ⟨N, hN⟩ : ∃ N, ms.length = N := ⟨_, rfl⟩
      rw [hms, hln, hN] at hrow2
      rw [hln, hN] at h321
      rw [hln, hN]
      have HN := hide hN
      have HRw := hide hrow2
      clear hms hln hN hrow2
      go_wp2_with fail
      go_loopw [3, 5, 23] (fun u _ c V => ∃ i : Nat, c = .int .i64 (i : Int) ∧ i ≤ N ∧ Hid (Sp w a a1 r { r with j := some { j1 with lg := j1.lg.due }, T := T1 } u ([] ++ (ms.take i).map (r.dg 0)) V) ∧ Hid (V.ownsRow w1.heap.size 67 11 (.slice ad2 N cap2) N (mcs ms))) (fun _ _ c _ => N - (intOf c).toNat)
      case atStart => exact ⟨0, rfl, Nat.zero_le _, by rw [List.take_zero, List.map_nil, List.append_nil]; exact HSp2, HRw⟩
      case round =>
        clear HSp2 HRw
        obtain ⟨i, rfl, hi, HSp, HRw⟩ := hrel
        by_cases hil : i < N
        · obtain ⟨g, m, hm, hg, hgl, hcs⟩ := own_msgs HN.out HRw.out i hil
          subst hg
          have hrb := HRb.out m (List.mem_of_getElem? hm)
          have HTk : Hid ((ms.take (i + 1)).map (r.dg 0) = (ms.take i).map (r.dg 0) ++ [r.dg 0 m]) := hide (by rw [List.take_add_one, List.map_append, hm]; rfl)
          obtain ⟨l, hl⟩ : ∃ l, [] ++ (ms.take i).map (r.dg 0) = l := ⟨_, rfl⟩
          have HL : Hid ([] ++ (ms.take (i + 1)).map (r.dg 0) = l ++ [r.dg 0 m]) := hide (by rw [HTk.out, ← List.append_assoc, hl])
          have hln : l.length ≤ 32 + i := by
            rw [← hl]
            simp only [List.length_append, List.length_map, List.length_take]
            simp only [List.length_nil]
            omega
          rw [hl] at HSp
          obtain ⟨n, hn⟩ : ∃ n, l.length = n := ⟨_, rfl⟩
          obtain ⟨adu, capu, hu⟩ := CH.own_slice HSp.out.ow
          rw [hn] at hu hln
          subst hu
          have HNl := hide hn
          have f0 := hcs 0 (by decide)
          have f1 := hcs 1 (by decide)
          have f2 := hcs 2 (by decide)
          have f3 := hcs 3 (by decide)
          have f4 := hcs 4 (by decide)
          have f5 := hcs 5 (by decide)
          have f6 := hcs 6 (by decide)
          have f7 := hcs 7 (by decide)
          have f8 := hcs 8 (by decide)
          have f9 := hcs 9 (by decide)
          have f10 := hcs 10 (by decide)
          simp only [W.msgC, Nat.add_zero, List.getElem?_cons_zero, List.getElem?_cons_succ] at f0 f1 f2 f3 f4 f5 f6 f7 f8 f9 f10
          have HTo : Hid (∀ V : World, Below wr.heap.size wr V → Calls Tryz.prog 44 #[.pointer (some ⟨a.R, 0, none⟩), .int .i64 0, .agg #[.int .i64 m.k, .int .i64 m.se, .int .i64 m.nu, .int .i64 m.jo, .int .i64 m.ba, .int .i64 m.ix, .int .i64 m.co, .int .i64 m.rc, .int .u64 (m.rb : Int), .string m.tx, .string m.pr]] V fun e w' => e = .returned (.agg #[.int .i64 0, .int .i64 (2 + (r.sl : Int)), .int .i64 (r.li : Int), .int .i64 0, .int .i64 0, .string (W.encB m)]) ∧ Below V.heap.size V w') := hide fun V hb => by
            have h1 := to_any (HSp.out.st.low hb).rm h8 0 m hrb
            rw [HSp.out.st.R] at h1
            exact h1
          clear hcs hm hl hn hrb HTk
          go_wp2_with fail
          refine (HTo.out _ (CH.below_alloc wr _)).mono ?_
          rintro e w4 ⟨rfl, hb4⟩
          have hbw : Below wr.heap.size wr (w4.alloc (.cells #[.int .i64 0, .int .i64 (2 + (r.sl : Int)), .int .i64 (r.li : Int), .int .i64 0, .int .i64 0, .string (W.encB m)] 94)) := ((CH.below_alloc wr _).trans (hb4.mono (by simp))).trans ((CH.below_alloc w4 _).mono (by have := hb4.size; simp at this; omega))
          have HSp5 := hide (HSp.out.up hbw)
          have HRw5 := hide (CH.own_below HRw.out hbw)
          have HE5 := hide (heap_alloc_new w4 (.cells #[.int .i64 0, .int .i64 (2 + (r.sl : Int)), .int .i64 (r.li : Int), .int .i64 0, .int .i64 0, .string (W.encB m)] 94))
          have hO5 := HSp5.out.ow
          rw [HNl.out] at hO5
          have HO5 := hide hO5
          have hs5 : w.heap.size ≤ (w4.alloc (.cells #[.int .i64 0, .int .i64 (2 + (r.sl : Int)), .int .i64 (r.li : Int), .int .i64 0, .int .i64 0, .string (W.encB m)] 94)).heap.size := HSp5.out.st.kp.size
          have HS5 := hide hs5
          have HDc : Hid ((r.dg 0 m).cs = [.int .i64 0, .int .i64 (2 + (r.sl : Int)), .int .i64 (r.li : Int), .int .i64 0, .int .i64 0, .string (W.encB m)]) := hide rfl
          clear hbw hO5 hs5 hb4 f0 f1 f2 f3 f4 f5 f6 f7 f8 f9 f10 HSp HRw HTo
          generalize W.encB m = eb at *
          go_wp2_with (at_builtin; refine wpList_append_lies _ rfl (.tmp 27) (.tmp 31) 54 rfl w.heap.size 94 iD _ 6 56 Tryz.underlying54 hiD zD0 zD1 zD2 rfl (by decide) (.slice adu n capu) n (dgs l) rfl HO5.out ⟨w4.heap.size, 0, none⟩ 1 1 [.int .i64 0, .int .i64 (2 + (r.sl : Int)), .int .i64 (r.li : Int), .int .i64 0, .int .i64 0, .string eb] rfl rfl (World.news_of_block HE5.out) (by simp [Value.oneCell']) (by decide) (by unfold maxLen; omega) (by omega) HS5.out _ rfl ?_; intro g7 cap7 w7 hown7 hgr7 _ _; have HO7 := hide hown7; have HG7 := hide hgr7; clear hown7 hgr7)
          have HSp7 : Hid (Sp w a a1 r { r with j := some { j1 with lg := j1.lg.due }, T := T1 } (.slice (some ⟨g7, 0, none⟩) (n + 1) cap7) (l ++ [r.dg 0 m]) w7) := hide (HSp5.out.app HTb.out HG7.out (by rw [HNl.out, HDc.out]; exact HO7.out))
          have HRw7 : Hid (w7.ownsRow w1.heap.size 67 11 (.slice (some ⟨g, 0, none⟩) N cap2) N (mcs ms)) := hide (CH.own_keep HRw5.out (fun k hk => HG7.out.block k (HRw5.out.lt k hk).2 (fun e => by
            obtain ⟨cs8, h8a⟩ := own_blk HRw5.out hk
            obtain ⟨cs9, h9a⟩ := own_blk HO5.out e.symm
            exact CH.blk_ne h8a h9a (by decide) rfl)))
          clear HO7 HG7 HO5 HE5
          go_roundw
          case rel => exact ⟨i + 1, by go_num, by omega, by rw [HL.out]; exact HSp7, HRw7⟩
          case measure => simp only [intOf]; omega
        · obtain rfl : i = N := by omega
          have hii : ¬ ((i : Int) < (i : Int)) := by omega
          have hTk : ms.take i = ms := by rw [← HN.out]; exact List.take_length
          rw [hTk] at HSp
          clear hTk HRw
          obtain ⟨l0, hl0⟩ : ∃ l0, [] ++ ms.map (r.dg 0) = l0 := ⟨_, rfl⟩
          have HL0 : Hid (l0 = (j1.lg.its.map j1.cm).map (r.dg 0)) := hide (by rw [← hl0, HMs.out]; rfl)
          have hl0n : l0.length ≤ 32 := by rw [← hl0]; simp only [List.nil_append, List.length_map]; have := HN.out; omega
          rw [hl0] at HSp
          have hSp := HSp.out
          have c6 := hSp.st.rm.c6
          rw [hSp.st.R] at c6
          replace c6 : wr.cell? ⟨a.R, 6, none⟩ = some (.pointer (some ⟨a1.ja.J, 0, none⟩)) := c6
          have HOk2 : Hid (Jb.ok { j1 with lg := j1.lg.due }) := hide ⟨HOk1.out.p, HOk1.out.m, CH.Sn.due_ok HOk1.out.lg, HOk1.out.ar⟩
          have HDP := hide (dueP_any (hSp.st.rm.j _ rfl) HOk2.out)
          have HSpa := HSp
          clear hSp HSp hi hl0 HMs HRb HS1 HS2
          obtain ⟨wA, hwA⟩ : ∃ wA, wA = wr := ⟨_, rfl⟩
          subst hwA
          go_wp2_with fail
          refine HDP.out.mono ?_
          rintro e w3 ⟨v3, rfl, hrow3, hjs3⟩
          obtain ⟨ad2, cap2, hv3⟩ := CH.own_slice hrow3
          subst hv3
          have HSp3 := hide (HSpa.out.call (St.job HSpa.out.st.rm rfl hjs3))
          replace HSp3 : Hid (Sp w a a1 r { r with j := some { j1 with lg := j1.lg.due, ar := j1.ar.due }, T := T1 } _ l0 w3) := HSp3
          replace hrow3 : w3.ownsRow wA.heap.size 67 11 (.slice ad2 j1.ar.its.length cap2) j1.ar.its.length (mcs (j1.ar.its.map j1.pm)) := hrow3
          clear hjs3 HDP c6 HSpa
          obtain ⟨ms, hms⟩ : ∃ ms, j1.ar.its.map j1.pm = ms := ⟨_, rfl⟩
          have hln : j1.ar.its.length = ms.length := by rw [← hms, List.length_map]
          have HRb : Hid (∀ m ∈ ms, m.rb < 18446744073709551616) := hide fun m hm => by
            rw [← hms] at hm
            obtain ⟨p, _, rfl⟩ := List.mem_map.1 hm
            show (0 : Nat) < _
            decide
          have HMs := hide hms
          obtain ⟨N, hN⟩ : ∃ N, ms.length = N := ⟨_, rfl⟩
          rw [hms, hln, hN] at hrow3
          rw [hln, hN] at h322
          replace hln : (CH.Sn.its (Jb.ar { j1 with lg := j1.lg.due })).length = ms.length := hln
          rw [hln, hN]
          have HN := hide hN
          have HRw := hide hrow3
          clear hms hln hN hrow3
          go_wp2_with fail
          go_loopw [3, 7, 40] (fun u _ c V => ∃ i : Nat, c = .int .i64 (i : Int) ∧ i ≤ N ∧ Hid (Sp w a a1 r { r with j := some { j1 with lg := j1.lg.due, ar := j1.ar.due }, T := T1 } u (l0 ++ (ms.take i).map (r.dg 1)) V) ∧ Hid (V.ownsRow wA.heap.size 67 11 (.slice ad2 N cap2) N (mcs ms))) (fun _ _ c _ => N - (intOf c).toNat)
          case atStart => exact ⟨0, rfl, Nat.zero_le _, by rw [List.take_zero, List.map_nil, List.append_nil]; exact HSp3, HRw⟩
          case round =>
            clear HSp3 HRw
            obtain ⟨i, rfl, hi, HSp, HRw⟩ := hrel
            by_cases hil : i < N
            · obtain ⟨g, m, hm, hg, hgl, hcs⟩ := own_msgs HN.out HRw.out i hil
              subst hg
              have hrb := HRb.out m (List.mem_of_getElem? hm)
              have HTk : Hid ((ms.take (i + 1)).map (r.dg 1) = (ms.take i).map (r.dg 1) ++ [r.dg 1 m]) := hide (by rw [List.take_add_one, List.map_append, hm]; rfl)
              obtain ⟨l, hl⟩ : ∃ l, l0 ++ (ms.take i).map (r.dg 1) = l := ⟨_, rfl⟩
              have HL : Hid (l0 ++ (ms.take (i + 1)).map (r.dg 1) = l ++ [r.dg 1 m]) := hide (by rw [HTk.out, ← List.append_assoc, hl])
              have hln : l.length ≤ 32 + i := by
                rw [← hl]
                simp only [List.length_append, List.length_map, List.length_take]
                skip
                omega
              rw [hl] at HSp
              obtain ⟨n, hn⟩ : ∃ n, l.length = n := ⟨_, rfl⟩
              obtain ⟨adu, capu, hu⟩ := CH.own_slice HSp.out.ow
              rw [hn] at hu hln
              subst hu
              have HNl := hide hn
              have f0 := hcs 0 (by decide)
              have f1 := hcs 1 (by decide)
              have f2 := hcs 2 (by decide)
              have f3 := hcs 3 (by decide)
              have f4 := hcs 4 (by decide)
              have f5 := hcs 5 (by decide)
              have f6 := hcs 6 (by decide)
              have f7 := hcs 7 (by decide)
              have f8 := hcs 8 (by decide)
              have f9 := hcs 9 (by decide)
              have f10 := hcs 10 (by decide)
              simp only [W.msgC, Nat.add_zero, List.getElem?_cons_zero, List.getElem?_cons_succ] at f0 f1 f2 f3 f4 f5 f6 f7 f8 f9 f10
              have HTo : Hid (∀ V : World, Below wr.heap.size wr V → Calls Tryz.prog 44 #[.pointer (some ⟨a.R, 0, none⟩), .int .i64 1, .agg #[.int .i64 m.k, .int .i64 m.se, .int .i64 m.nu, .int .i64 m.jo, .int .i64 m.ba, .int .i64 m.ix, .int .i64 m.co, .int .i64 m.rc, .int .u64 (m.rb : Int), .string m.tx, .string m.pr]] V fun e w' => e = .returned (.agg #[.int .i64 0, .int .i64 (2 + (r.sl : Int)), .int .i64 (r.li : Int), .int .i64 1, .int .i64 0, .string (W.encB m)]) ∧ Below V.heap.size V w') := hide fun V hb => by
                have h1 := to_any (HSp.out.st.low hb).rm h8 1 m hrb
                rw [HSp.out.st.R] at h1
                exact h1
              clear hcs hm hl hn hrb HTk
              go_wp2_with fail
              refine (HTo.out _ (CH.below_alloc wr _)).mono ?_
              rintro e w4 ⟨rfl, hb4⟩
              have hbw : Below wr.heap.size wr (w4.alloc (.cells #[.int .i64 0, .int .i64 (2 + (r.sl : Int)), .int .i64 (r.li : Int), .int .i64 1, .int .i64 0, .string (W.encB m)] 94)) := ((CH.below_alloc wr _).trans (hb4.mono (by simp))).trans ((CH.below_alloc w4 _).mono (by have := hb4.size; simp at this; omega))
              have HSp5 := hide (HSp.out.up hbw)
              have HRw5 := hide (CH.own_below HRw.out hbw)
              have HE5 := hide (heap_alloc_new w4 (.cells #[.int .i64 0, .int .i64 (2 + (r.sl : Int)), .int .i64 (r.li : Int), .int .i64 1, .int .i64 0, .string (W.encB m)] 94))
              have hO5 := HSp5.out.ow
              rw [HNl.out] at hO5
              have HO5 := hide hO5
              have hs5 : w.heap.size ≤ (w4.alloc (.cells #[.int .i64 0, .int .i64 (2 + (r.sl : Int)), .int .i64 (r.li : Int), .int .i64 1, .int .i64 0, .string (W.encB m)] 94)).heap.size := HSp5.out.st.kp.size
              have HS5 := hide hs5
              have HDc : Hid ((r.dg 1 m).cs = [.int .i64 0, .int .i64 (2 + (r.sl : Int)), .int .i64 (r.li : Int), .int .i64 1, .int .i64 0, .string (W.encB m)]) := hide rfl
              clear hbw hO5 hs5 hb4 f0 f1 f2 f3 f4 f5 f6 f7 f8 f9 f10 HSp HRw HTo
              generalize W.encB m = eb at *
              go_wp2_with (at_builtin; refine wpList_append_lies _ rfl (.tmp 44) (.tmp 48) 54 rfl w.heap.size 94 iD _ 6 56 Tryz.underlying54 hiD zD0 zD1 zD2 rfl (by decide) (.slice adu n capu) n (dgs l) rfl HO5.out ⟨w4.heap.size, 0, none⟩ 1 1 [.int .i64 0, .int .i64 (2 + (r.sl : Int)), .int .i64 (r.li : Int), .int .i64 1, .int .i64 0, .string eb] rfl rfl (World.news_of_block HE5.out) (by simp [Value.oneCell']) (by decide) (by unfold maxLen; omega) (by omega) HS5.out _ rfl ?_; intro g7 cap7 w7 hown7 hgr7 _ _; have HO7 := hide hown7; have HG7 := hide hgr7; clear hown7 hgr7)
              have HSp7 : Hid (Sp w a a1 r { r with j := some { j1 with lg := j1.lg.due, ar := j1.ar.due }, T := T1 } (.slice (some ⟨g7, 0, none⟩) (n + 1) cap7) (l ++ [r.dg 1 m]) w7) := hide (HSp5.out.app HTb.out HG7.out (by rw [HNl.out, HDc.out]; exact HO7.out))
              have HRw7 : Hid (w7.ownsRow wA.heap.size 67 11 (.slice (some ⟨g, 0, none⟩) N cap2) N (mcs ms)) := hide (CH.own_keep HRw5.out (fun k hk => HG7.out.block k (HRw5.out.lt k hk).2 (fun e => by
                obtain ⟨cs8, h8a⟩ := own_blk HRw5.out hk
                obtain ⟨cs9, h9a⟩ := own_blk HO5.out e.symm
                exact CH.blk_ne h8a h9a (by decide) rfl)))
              clear HO7 HG7 HO5 HE5
              go_roundw
              case rel => exact ⟨i + 1, by go_num, by omega, by rw [HL.out]; exact HSp7, HRw7⟩
              case measure => simp only [intOf]; omega
            · obtain rfl : i = N := by omega
              have hii : ¬ ((i : Int) < (i : Int)) := by omega
              have hTk : ms.take i = ms := by rw [← HN.out]; exact List.take_length
              rw [hTk] at HSp
              clear hTk HRw
              have HF : Hid (r.out1 = l0 ++ ms.map (r.dg 1)) := hide (by rw [HOut.out]; unfold Rn.jout; rw [HJ1.out, HL0.out, HMs.out])
              have hlen : r.out1.length ≤ 64 := by rw [HF.out, List.length_append, List.length_map]; have := HN.out; omega
              clear HN
              go_wp2_with fail
              go_meet
              exact hide ⟨a1, by rw [HMid.out, HF.out]; exact HSp.out, hlen⟩
  case rest =>
    obtain ⟨a2, hsp, hlen⟩ := hcut.out
    have HOk := hide (Rn.mid_ok HK.out)
    have HA := hide (rask_any hsp.st.rm HOk.out)
    rw [hsp.st.R] at HA
    have HOk2 := hide (Rn.ask1_ok HOk.out)
    have hsl := (Rn.mid_sl r).1
    have hli := (Rn.mid_sl r).2
    obtain ⟨n, hn⟩ : ∃ n, r.out1.length = n := ⟨_, rfl⟩
    obtain ⟨ad3, cap3, hu3⟩ := CH.own_slice hsp.ow
    rw [hn] at hu3 hlen
    subst hu3
    have HNl := hide hn
    have HSp := hide hsp
    clear hcut hsp hn c6 HP1 HP2
    go_wp2_with fail
    refine HA.out.mono ?_
    rintro e w2 ⟨rfl, hs2⟩
    have HSp2 : Hid (Sp w a a2 r r.mid.ask1 (.slice ad3 n cap3) r.out1 w2) := hide (HSp.out.call hs2)
    have c5 := HSp2.out.st.rm.c5
    rw [HSp2.out.st.R] at c5
    have HDu := hide (SE.due_any HSp2.out.st.rm.cb)
    have hrb := (due_rb HOk2.out.cb).1
    clear hs2 HSp HA HOk
    have HStp : Hid (r.stp = { r.mid.ask1 with c := r.mid.ask1.c.due.c }) := hide rfl
    have HO2 : Hid (∀ m, r.mid.ask1.c.due.m = m → ∀ b, r.mid.ask1.c.due.is = b → r.out2 = if b = true then [r.dg 0 (msOf m)] else []) := hide fun m hm b hb => by unfold Rn.out2; rw [hm, hb]
    have HSl : Hid (r.mid.ask1.sl = r.sl ∧ r.mid.ask1.li = r.li) := hide ⟨hsl, hli⟩
    obtain ⟨ra, hra⟩ : ∃ ra, r.mid.ask1 = ra := ⟨_, rfl⟩
    rw [hra] at HSp2 HDu HStp HO2 HSl HOk2 hrb
    clear hra hsl hli
    obtain ⟨dm, hdm⟩ : ∃ dm, ra.c.due.m = dm := ⟨_, rfl⟩
    obtain ⟨di, hdi⟩ : ∃ di, ra.c.due.is = di := ⟨_, rfl⟩
    have HO3 := hide (HO2.out dm hdm di hdi)
    rw [hdm, hdi] at HDu
    rw [hdm] at hrb
    clear hdm hdi HO2
    obtain ⟨k, se, nu, jo, ba, ix, co, rc, rb, tx, pr⟩ := dm
    go_wp2_with fail
    refine HDu.out.mono ?_
    rintro e w3 ⟨rfl, hc, ho⟩
    simp only [SE.smC]
    have HSp3 : Hid (Sp w a a2 r r.stp (.slice ad3 n cap3) r.out1 w3) := hide (by rw [HStp.out]; exact HSp2.out.call (St.call HSp2.out.st.rm ho hc))
    have HSl3 : Hid (r.stp.sl = r.sl ∧ r.stp.li = r.li) := hide (by rw [HStp.out]; exact HSl.out)
    clear hc ho HDu HSp2 c5
    cases di with
    | false =>
      have HOu : Hid (r.out = r.out1) := hide (by unfold Rn.out; rw [HO3.out]; simp)
      go_wp2_with fail
      go_ret
      refine ⟨_, a2, rfl, ?_, HSp3.out.st.low (CH.below_alloc w3 _)⟩
      rw [HOu.out, HNl.out]
      have h9 := HSp3.out.ow
      rw [HNl.out] at h9
      exact CH.own_below h9 (CH.below_alloc w3 _)
    | true =>
      have HOu : Hid (r.out = r.out1 ++ [r.dg 0 (msOf ⟨k, se, nu, jo, ba, ix, co, rc, rb, tx, pr⟩)]) := hide (by unfold Rn.out; rw [HO3.out]; rfl)
      have HTo : Hid (∀ V : World, Below w3.heap.size w3 V → Calls Tryz.prog 44 #[.pointer (some ⟨a.R, 0, none⟩), .int .i64 0, .agg #[.int .i64 k, .int .i64 se, .int .i64 nu, .int .i64 jo, .int .i64 ba, .int .i64 ix, .int .i64 co, .int .i64 rc, .int .u64 (rb : Int), .string tx, .string pr]] V fun e w' => e = .returned (.agg #[.int .i64 0, .int .i64 (2 + (r.sl : Int)), .int .i64 (r.li : Int), .int .i64 0, .int .i64 0, .string (W.encB (msOf ⟨k, se, nu, jo, ba, ix, co, rc, rb, tx, pr⟩))]) ∧ Below V.heap.size V w') := hide fun V hb => by
        have h1 := to_any (HSp3.out.st.low hb).rm (by rw [HSl3.out.1]; exact h8) 0 (msOf ⟨k, se, nu, jo, ba, ix, co, rc, rb, tx, pr⟩) hrb
        rw [HSp3.out.st.R, HSl3.out.1, HSl3.out.2] at h1
        exact h1
      have HDc : Hid ((r.dg 0 (msOf ⟨k, se, nu, jo, ba, ix, co, rc, rb, tx, pr⟩)).cs = [.int .i64 0, .int .i64 (2 + (r.sl : Int)), .int .i64 (r.li : Int), .int .i64 0, .int .i64 0, .string (W.encB (msOf ⟨k, se, nu, jo, ba, ix, co, rc, rb, tx, pr⟩))]) := hide rfl
      generalize hd : r.dg 0 (msOf ⟨k, se, nu, jo, ba, ix, co, rc, rb, tx, pr⟩) = dd at *
      generalize W.encB (msOf ⟨k, se, nu, jo, ba, ix, co, rc, rb, tx, pr⟩) = eb at *
      clear hd hrb HO3
      go_wp2_with fail
      refine (HTo.out _ (CH.below_alloc w3 _)).mono ?_
      rintro e w4 ⟨rfl, hb4⟩
      have hbw : Below w3.heap.size w3 (w4.alloc (.cells #[.int .i64 0, .int .i64 (2 + (r.sl : Int)), .int .i64 (r.li : Int), .int .i64 0, .int .i64 0, .string eb] 94)) := ((CH.below_alloc w3 _).trans (hb4.mono (by simp))).trans ((CH.below_alloc w4 _).mono (by have := hb4.size; simp at this; omega))
      have HSp5 := hide (HSp3.out.up hbw)
      have HE5 := hide (heap_alloc_new w4 (.cells #[.int .i64 0, .int .i64 (2 + (r.sl : Int)), .int .i64 (r.li : Int), .int .i64 0, .int .i64 0, .string eb] 94))
      have hO5 := HSp5.out.ow
      rw [HNl.out] at hO5
      have HO5 := hide hO5
      have HS5 : Hid (w.heap.size ≤ (w4.alloc (.cells #[.int .i64 0, .int .i64 (2 + (r.sl : Int)), .int .i64 (r.li : Int), .int .i64 0, .int .i64 0, .string eb] 94)).heap.size) := hide HSp5.out.st.kp.size
      clear hbw hO5 hb4 HSp3 HTo
      go_wp2_with (at_builtin; refine wpList_append_lies _ rfl (.tmp 64) (.tmp 68) 54 rfl w.heap.size 94 iD _ 6 56 Tryz.underlying54 hiD zD0 zD1 zD2 rfl (by decide) (.slice ad3 n cap3) n (dgs r.out1) rfl HO5.out ⟨w4.heap.size, 0, none⟩ 1 1 [.int .i64 0, .int .i64 (2 + (r.sl : Int)), .int .i64 (r.li : Int), .int .i64 0, .int .i64 0, .string eb] rfl rfl (World.news_of_block HE5.out) (by simp [Value.oneCell']) (by decide) (by unfold maxLen; omega) (by omega) HS5.out _ rfl ?_; intro g7 cap7 w7 hown7 hgr7 _ _; have HO7 := hide hown7; have HG7 := hide hgr7; clear hown7 hgr7)
      have HSp7 : Hid (Sp w a a2 r r.stp (.slice (some ⟨g7, 0, none⟩) (n + 1) cap7) (r.out1 ++ [dd]) w7) := hide (HSp5.out.app HTb.out HG7.out (by rw [HNl.out, HDc.out]; exact HO7.out))
      go_ret
      refine ⟨_, a2, rfl, ?_, HSp7.out.st⟩
      rw [HOu.out]
      have h9 := HSp7.out.ow
      rw [List.length_append, HNl.out] at h9 ⊢
      exact h9
end Go.Proofs.YtkfnedhllfdghaaGreatDoor.RN
end
