import Derived.Test.YthjngodkpldpfaaGreatDoorMgBI
import Derived.Test.YthjngodkpldpfaaGreatDoorMgAX

section
namespace Go.Proofs.YthjngodkpldpfaaGreatDoor
open Go.RowKit Go.Shelf

/-- the document's machine stands as m -/
abbrev Dm (w : World) (B : Nat) (m : Mc) (v nv pv : Value) (xs : List In) (fuel : Nat) : Prop := Rm w B (Dc.of m) (m.S.take m.sn) (m.P.take m.pn) v nv pv xs fuel
/-- what a step of the document's leaves -/
def StP (w : World) (B : Nat) (r : Mc × Nat × ByteArray) (v nv pv : Value) (xs : List In) (fuel : Nat) (e : Ending) (w' : World) : Prop :=
  ∃ nv' pv', e = .returned (.tuple #[.int .i64 (r.2.1 : Int), .string r.2.2, .int .i64 0]) ∧ Dm w' B r.1 v nv' pv' xs fuel ∧ Mw (ftD B nv pv) (ftD B nv' pv') w w'
set_option maxRecDepth 20000 in
set_option maxHeartbeats 400000 in
theorem rstep_over {w : World} {B fuel : Nat} {m : Mc} {v nv pv : Value} {xs : List In} (h : Dm w B m v nv pv xs fuel) (ho : m.ov = true) :
    Calls Tryz.prog 34 #[.pointer (some ⟨B, 0, none⟩)] w fun e w' => e = .returned (.tuple #[.int .i64 0, .string ByteArray.empty, .int .i64 60]) ∧ w' = w := by
  have c := h.b.cell (Dc.g_ov h.b.r8 v nv pv fuel)
  rw [show (Dc.of m).ov = true from ho] at c
  go_enter Tryz.func34, Tryz.ntmps34
  go_wp2_with fail
  go_ret3
  exact ⟨rfl, rfl⟩
theorem bd_drew2 (w : World) (a b : Nat) : Below w.heap.size w ((w.drewN a).drewN b) := ⟨rfl, rfl, rfl, Nat.le_refl _, fun _ _ => rfl⟩
theorem fin_dm {w W : World} {B fuel : Nat} {m m' : Mc} {kd : Nat} {tx : ByteArray} {d : Dc} {ns ps : List Nat} {v nv pv nv' pv' : Value} {xs : List In} (hst : Im.stp xs fuel m = (m', kd, tx)) (h : Rm W B d ns ps v nv' pv' xs fuel) (hd : d = Dc.of m') (hn : ns = m'.S.take m'.sn) (hp : ps = m'.P.take m'.pn) (k : Mw (ftD B nv pv) (ftD B nv' pv') w W) :
    StP w B (Im.stp xs fuel m) v nv pv xs fuel (.returned (.tuple #[.int .i64 (kd : Int), .string tx, .int .i64 0])) W := by
  rw [hst]
  subst hd hn hp
  exact ⟨nv', pv', rfl, h, k⟩
theorem stp_do {xs : List In} {fuel : Nat} {m : Mc} {x : In} (hx : xs[m.pl]! = x) {M : Mc} {kd : Nat} {tx : ByteArray} (hD : Im.doM (Im.ready m) x xs.length = (0, M, kd, tx)) : Im.stp xs fuel m = (Im.settle M xs.length fuel, kd, tx) := by
  unfold Im.stp
  rw [hx, hD]
  rfl
theorem stp_trap {xs : List In} {fuel : Nat} {m : Mc} {x : In} (hx : xs[m.pl]! = x) {t : Nat} (hD : (Im.doM (Im.ready m) x xs.length).1 = t) (ht : t ≠ 0) : Im.stp xs fuel m = (Im.trapped m t, 0, ByteArray.empty) := by
  unfold Im.stp
  rw [hx, if_neg (by rw [hD]; exact ht), hD]
theorem settle_end {M : Mc} {many fuel : Nat} (ho : M.ov = false) (h : M.pl = many) : Im.settle M many fuel = { M with ov := true } := by unfold Im.settle; rw [if_neg (by rw [ho]; decide), if_pos h]
theorem settle_fuel {M : Mc} {many fuel : Nat} (ho : M.ov = false) (h : ¬ M.pl = many) (h2 : M.dn = fuel) : Im.settle M many fuel = { M with ov := true, en := 1 } := by unfold Im.settle; rw [if_neg (by rw [ho]; decide), if_neg h, if_pos h2]
theorem settle_on {M : Mc} {many fuel : Nat} (ho : M.ov = false) (h : ¬ M.pl = many) (h2 : ¬ M.dn = fuel) : Im.settle M many fuel = M := by unfold Im.settle; rw [if_neg (by rw [ho]; decide), if_neg h, if_neg h2]
theorem settle_halt {M : Mc} {many fuel : Nat} (ho : M.ov = true) : Im.settle M many fuel = M := by unfold Im.settle; rw [if_pos ho]
theorem dc_end {M : Mc} {r0 : Nat} (he : M.en = 0) (hR : M.R[0]! = r0) : (⟨M.pl, M.dn, M.R, M.ch, M.pc, true, 0, r0⟩ : Dc) = Dc.of { M with ov := true } := by
  unfold Dc.of Im.resB
  rw [if_pos ⟨rfl, he⟩, ← hR, he]
theorem dc_live {m : Mc} (ho : m.ov = false) (he : m.en = 0) : Dc.of m = ⟨m.pl, m.dn, m.R, m.ch, m.pc, false, 0, 0⟩ := by
  unfold Dc.of Im.resB
  rw [ho, he, if_neg (fun k => by cases k.1)]
theorem dc_trap (m : Mc) (t : Nat) (ht : t ≠ 0) : (⟨m.pl, m.dn + 1, m.R, m.ch, m.pc, true, t, 0⟩ : Dc) = Dc.of (Im.trapped m t) := by
  unfold Dc.of Im.resB Im.trapped
  rw [if_neg (fun k => ht k.2)]
theorem fin_trap {w W : World} {B fuel t : Nat} {m : Mc} {x : In} {v nv pv nv' pv' : Value} {xs : List In} (hx : xs[m.pl]! = x) (hD : (Im.doM (Im.ready m) x xs.length).1 = t) (ht : t ≠ 0)
    (h : Rm W B ⟨m.pl, m.dn + 1, m.R, m.ch, m.pc, true, t, 0⟩ (m.S.take m.sn) (m.P.take m.pn) v nv' pv' xs fuel) (k : Mw (ftD B nv pv) (ftD B nv' pv') w W) : StP w B (Im.stp xs fuel m) v nv pv xs fuel (.returned (.tuple #[.int .i64 0, .string ByteArray.empty, .int .i64 0])) W :=
  fin_dm (m' := Im.trapped m t) (kd := 0) (stp_trap hx hD ht) h (dc_trap m t ht) rfl rfl k
theorem dc_fuel (M : Mc) : (⟨M.pl, M.dn, M.R, M.ch, M.pc, true, 1, 0⟩ : Dc) = Dc.of { M with ov := true, en := 1 } := by
  unfold Dc.of Im.resB
  rw [if_neg (fun k => by cases k.2)]
theorem fin_end {w W : World} {B fuel : Nat} {m M : Mc} {x : In} {kd : Nat} {tx : ByteArray} {v nv pv nv' pv' : Value} {xs : List In} (hx : xs[m.pl]! = x) (hD : Im.doM (Im.ready m) x xs.length = (0, M, kd, tx)) (ho : M.ov = false) (he : M.en = 0) (e1 : M.pl = xs.length)
    (h : Rm W B ⟨M.pl, M.dn, M.R, M.ch, M.pc, true, 0, M.R[0]!⟩ (M.S.take M.sn) (M.P.take M.pn) v nv' pv' xs fuel) (k : Mw (ftD B nv pv) (ftD B nv' pv') w W) : StP w B (Im.stp xs fuel m) v nv pv xs fuel (.returned (.tuple #[.int .i64 (kd : Int), .string tx, .int .i64 0])) W :=
  fin_dm ((stp_do hx hD).trans (by rw [settle_end ho e1])) h (dc_end he rfl) rfl rfl k
theorem fin_fuel {w W : World} {B fuel : Nat} {m M : Mc} {x : In} {kd : Nat} {tx : ByteArray} {v nv pv nv' pv' : Value} {xs : List In} (hx : xs[m.pl]! = x) (hD : Im.doM (Im.ready m) x xs.length = (0, M, kd, tx)) (ho : M.ov = false) (e1 : ¬ M.pl = xs.length) (e2 : M.dn = fuel)
    (h : Rm W B ⟨M.pl, M.dn, M.R, M.ch, M.pc, true, 1, 0⟩ (M.S.take M.sn) (M.P.take M.pn) v nv' pv' xs fuel) (k : Mw (ftD B nv pv) (ftD B nv' pv') w W) : StP w B (Im.stp xs fuel m) v nv pv xs fuel (.returned (.tuple #[.int .i64 (kd : Int), .string tx, .int .i64 0])) W :=
  fin_dm (m' := { M with ov := true, en := 1 }) ((stp_do hx hD).trans (by rw [settle_fuel ho e1 e2])) h (dc_fuel M) rfl rfl k
theorem fin_on {w W : World} {B fuel : Nat} {m M : Mc} {x : In} {kd : Nat} {tx : ByteArray} {v nv pv nv' pv' : Value} {xs : List In} (hx : xs[m.pl]! = x) (hD : Im.doM (Im.ready m) x xs.length = (0, M, kd, tx)) (ho : M.ov = false) (he : M.en = 0) (e1 : ¬ M.pl = xs.length) (e2 : ¬ M.dn = fuel)
    (h : Rm W B ⟨M.pl, M.dn, M.R, M.ch, M.pc, false, 0, 0⟩ (M.S.take M.sn) (M.P.take M.pn) v nv' pv' xs fuel) (k : Mw (ftD B nv pv) (ftD B nv' pv') w W) : StP w B (Im.stp xs fuel m) v nv pv xs fuel (.returned (.tuple #[.int .i64 (kd : Int), .string tx, .int .i64 0])) W :=
  fin_dm ((stp_do hx hD).trans (by rw [settle_on ho e1 e2])) h (dc_live ho he).symm rfl rfl k
theorem doM_on (m : Mc) (x : In) (many : Nat) (h24 : x.op ≠ 24) (hle : x.op ≤ 24) : (Im.doM m x many).2.1.ov = m.ov := by
  refine doM_ind (P := fun d => d.2.1.ov = m.ov) m x many ?_ ?_ ?_ ?_ ?_ ?_ ?_ ?_ ?_ ?_ ?_ ?_ ?_ ?_ ?_ ?_ ?_ ?_ ?_ ?_
  all_goals intro h
  all_goals first
    | rfl
    | (exfalso; omega)
theorem fin_halt {w W : World} {B fuel : Nat} {m M : Mc} {x : In} {v nv pv nv' pv' : Value} {xs : List In} (hx : xs[m.pl]! = x) (hD : Im.doM (Im.ready m) x xs.length = (0, M, 0, ByteArray.empty)) (ho : M.ov = true) (he : M.en = 0)
    (h : Rm W B ⟨M.pl, M.dn, M.R, M.ch, M.pc, true, 0, M.R[0]!⟩ (M.S.take M.sn) (M.P.take M.pn) v nv' pv' xs fuel) (k : Mw (ftD B nv pv) (ftD B nv' pv') w W) : StP w B (Im.stp xs fuel m) v nv pv xs fuel (.returned (.tuple #[.int .i64 0, .string ByteArray.empty, .int .i64 0])) W :=
  fin_dm (m' := M) (kd := 0) ((stp_do hx hD).trans (by rw [settle_halt ho])) h (by unfold Dc.of Im.resB; rw [if_pos ⟨ho, he⟩, ho, he]) rfl rfl k
set_option maxRecDepth 20000 in
set_option maxHeartbeats 8000000 in
theorem rstep_live {w : World} {B fuel : Nat} {m : Mc} {v nv pv : Value} {xs : List In} (h : Dm w B m v nv pv xs fuel) (ho : m.ov = false) (hk : m.Ok xs.length fuel) (hg : ∀ x ∈ xs, x.Good xs.length) (hm : xs.length < 1000000) (hf : fuel < 1000000) :
    Calls Tryz.prog 34 #[.pointer (some ⟨B, 0, none⟩)] w (StP w B (Im.stp xs fuel m) v nv pv xs fuel) := by
  have hl := hk.live ho
  obtain ⟨hl1, hl2, hl3⟩ := hl
  have hG : (xs[m.pl]!).Good xs.length := by rw [getElem!_pos xs m.pl hl1]; exact hg _ (List.getElem_mem hl1)
  have HR := hide h
  have c16 := h.b.cell (Dc.g_ov h.b.r8 v nv pv fuel)
  rw [show (Dc.of m).ov = false from ho] at c16
  have c1 := h.b.cell (Dc.g_v h.b.r8 v nv pv fuel)
  have c2 : w.cell? ⟨B, 2, none⟩ = some (.int .i64 (m.pl : Int)) := h.b.cell (Dc.g_pl h.b.r8 v nv pv fuel)
  have c3 : w.cell? ⟨B, 3, none⟩ = some (.int .i64 (m.dn : Int)) := h.b.cell (Dc.g_dn h.b.r8 v nv pv fuel)
  have hz := h.b.z
  have hlt := h.b.lt
  obtain ⟨cb, off, ccap, rfl, hcb, hcx⟩ := h.c
  have hc := hcx m.pl hl1
  have k0 := hc 0 _ rfl
  have k1 := hc 1 _ rfl
  have k2 := hc 2 _ rfl
  have k3 := hc 3 _ rfl
  have k4 := hc 4 _ rfl
  have k5 := hc 5 _ rfl
  simp only [Nat.add_zero] at k0
  obtain ⟨x, hx⟩ : ∃ x, xs[m.pl]! = x := ⟨_, rfl⟩
  rw [hx] at k0 k1 k2 k3 k4 k5 hG
  have HX := hide hx
  clear hc hcx hg h hx
  obtain ⟨op, a, b, c, n, k⟩ := x
  simp only at k0 k1 k2 k3 k4 k5
  have ha0 := hG.a0
  have ha1 := hG.a1
  have hb0 := hG.b0
  have hb1 := hG.b1
  have hc0 := hG.c0
  have hc1 := hG.c1
  simp only at ha0 ha1 hb0 hb1 hc0 hc1
  obtain ⟨a, rfl⟩ : ∃ q : Nat, a = (q : Int) := ⟨a.toNat, by omega⟩
  obtain ⟨b, rfl⟩ : ∃ q : Nat, b = (q : Int) := ⟨b.toNat, by omega⟩
  obtain ⟨c, rfl⟩ : ∃ q : Nat, c = (q : Int) := ⟨c.toNat, by omega⟩
  have ha : a < 8 := by omega
  have hb : b < 8 := by omega
  have hc : c < 8 := by omega
  have hpi : (m.pl : Int) < (xs.length : Int) := by omega
  have hpn : ¬ xs.length ≤ m.pl := by omega
  have hcbl : cb < w.heap.size := by omega
  go_enter Tryz.func34, Tryz.ntmps34
  go_wp2_with fail
  have KEEP : Hid (∀ o : Obj, (w.drew.alloc o).cell? ⟨B, 1, none⟩ = some (.slice (some ⟨cb, off, none⟩) xs.length ccap) ∧ (w.drew.alloc o).cell? ⟨B, 2, none⟩ = some (.int .i64 (m.pl : Int)) ∧ (w.drew.alloc o).cell? ⟨cb, off + m.pl * 6, none⟩ = some (.int .i64 op) ∧ (w.drew.alloc o).cell? ⟨cb, off + m.pl * 6 + 1, none⟩ = some (.int .i64 (a : Int)) ∧ (w.drew.alloc o).cell? ⟨cb, off + m.pl * 6 + 2, none⟩ = some (.int .i64 (b : Int)) ∧ (w.drew.alloc o).cell? ⟨cb, off + m.pl * 6 + 3, none⟩ = some (.int .i64 (c : Int)) ∧ (w.drew.alloc o).cell? ⟨cb, off + m.pl * 6 + 4, none⟩ = some (.int .i64 n) ∧ (w.drew.alloc o).cell? ⟨cb, off + m.pl * 6 + 5, none⟩ = some (.int .u64 (k : Int))) := fun o => ⟨Lib.cell?_alloc_some _ c1, Lib.cell?_alloc_some _ c2, Lib.cell?_alloc_some _ k0, Lib.cell?_alloc_some _ k1, Lib.cell?_alloc_some _ k2, Lib.cell?_alloc_some _ k3, Lib.cell?_alloc_some _ k4, Lib.cell?_alloc_some _ k5⟩
  go_region_held3 (fun w' => w'.cell? ⟨B, 1, none⟩ = some (.slice (some ⟨cb, off, none⟩) xs.length ccap) ∧ w'.cell? ⟨B, 2, none⟩ = some (.int .i64 (m.pl : Int)) ∧ w'.cell? ⟨cb, off + m.pl * 6, none⟩ = some (.int .i64 op) ∧ w'.cell? ⟨cb, off + m.pl * 6 + 1, none⟩ = some (.int .i64 (a : Int)) ∧ w'.cell? ⟨cb, off + m.pl * 6 + 2, none⟩ = some (.int .i64 (b : Int)) ∧ w'.cell? ⟨cb, off + m.pl * 6 + 3, none⟩ = some (.int .i64 (c : Int)) ∧ w'.cell? ⟨cb, off + m.pl * 6 + 4, none⟩ = some (.int .i64 n) ∧ w'.cell? ⟨cb, off + m.pl * 6 + 5, none⟩ = some (.int .u64 (k : Int))) (first | exact ⟨c1, c2, k0, k1, k2, k3, k4, k5⟩ | exact KEEP.out _ | go_keep) (fail)
  have hRA : Rm (w.alloc (.cells #[.int .i64 op, .int .i64 (a : Int), .int .i64 (b : Int), .int .i64 (c : Int), .int .i64 n, .int .u64 (k : Int)] 66)).drew B (Dc.of m) (m.S.take m.sn) (m.P.take m.pn) (.slice (some ⟨cb, off, none⟩) xs.length ccap) nv pv xs fuel := (HR.out.below (below_one w (.cells #[.int .i64 op, .int .i64 (a : Int), .int .i64 (b : Int), .int .i64 (c : Int), .int .i64 n, .int .u64 (k : Int)] 66))).below (bd_drew _ 1)
  have hMA : Mw (ftD B nv pv) (ftD B nv pv) w (w.alloc (.cells #[.int .i64 op, .int .i64 (a : Int), .int .i64 (b : Int), .int .i64 (c : Int), .int .i64 n, .int .u64 (k : Int)] 66)).drew := (mw_below (below_one w (.cells #[.int .i64 op, .int .i64 (a : Int), .int .i64 (b : Int), .int .i64 (c : Int), .int .i64 n, .int .u64 (k : Int)] 66))).trans (mw_below (bd_drew _ 1))
  have hXB : (w.alloc (.cells #[.int .i64 op, .int .i64 (a : Int), .int .i64 (b : Int), .int .i64 (c : Int), .int .i64 n, .int .u64 (k : Int)] 66)).drew.heap[w.heap.size]? = some (.cells #[.int .i64 op, .int .i64 (a : Int), .int .i64 (b : Int), .int .i64 (c : Int), .int .i64 n, .int .u64 (k : Int)] 66) := heap_alloc_new w _
  generalize (w.alloc (.cells #[.int .i64 op, .int .i64 (a : Int), .int .i64 (b : Int), .int .i64 (c : Int), .int .i64 n, .int .u64 (k : Int)] 66)).drew = WA at *
  have HXB := hide hXB
  have x0 := (six_of hXB).1.1
  have x1 := (six_of hXB).1.2.1
  have x2 := (six_of hXB).1.2.2.1
  have x3 := (six_of hXB).1.2.2.2.1
  have x4 := (six_of hXB).1.2.2.2.2.1
  have x5 := (six_of hXB).1.2.2.2.2.2
  have hxl := lt_of_block hXB
  have HRA := hide hRA
  have HMA := hide hMA
  have c0 : WA.cell? ⟨B, 0, none⟩ = some (.int .i64 (fuel : Int)) := hRA.b.cell (Dc.g_fuel hRA.b.r8 _ nv pv fuel)
  have c1 := hRA.b.cell (Dc.g_v hRA.b.r8 _ nv pv fuel)
  have c2 : WA.cell? ⟨B, 2, none⟩ = some (.int .i64 (m.pl : Int)) := hRA.b.cell (Dc.g_pl hRA.b.r8 _ nv pv fuel)
  have c3 : WA.cell? ⟨B, 3, none⟩ = some (.int .i64 (m.dn : Int)) := hRA.b.cell (Dc.g_dn hRA.b.r8 _ nv pv fuel)
  have c14 : WA.cell? ⟨B, 14, none⟩ = some (.int .i64 (m.ch : Int)) := hRA.b.cell (Dc.g_ch hRA.b.r8 _ nv pv fuel)
  have c15 : WA.cell? ⟨B, 15, none⟩ = some (.int .i64 (m.pc : Int)) := hRA.b.cell (Dc.g_pc hRA.b.r8 _ nv pv fuel)
  have c17 : WA.cell? ⟨B, 17, none⟩ = some (.int .i64 (m.en : Int)) := hRA.b.cell (Dc.g_rc hRA.b.r8 _ nv pv fuel)
  have c18 : WA.cell? ⟨B, 18, none⟩ = some (.int .u64 (Im.resB m : Int)) := hRA.b.cell (Dc.g_rb hRA.b.r8 _ nv pv fuel)
  have c16A : WA.cell? ⟨B, 16, none⟩ = some (.bool m.ov) := hRA.b.cell (Dc.g_ov hRA.b.r8 _ nv pv fuel)
  have hch32 := hk.ch
  have hpc16 := hk.pc
  have zA := hRA.b.z
  have hltA := hRA.b.lt
  have hxB : ¬ w.heap.size = B := by omega
  have hxB2 : ¬ B = w.heap.size := by omega
  clear hRA hMA hXB k0 k1 k2 k3 k4 k5 c16 hz KEEP hpi hpn
  by_cases h1 : op = 1
  · subst h1
    go_wp2_with fail
    have hRB : Rm (WA.setCell ⟨B, 3, none⟩ (.int .i64 ((m.dn : Int) + 1))) B ⟨m.pl, m.dn + 1, m.R, m.ch, m.pc, false, 0, 0⟩ (m.S.take m.sn) (m.P.take m.pn) (.slice (some ⟨cb, off, none⟩) xs.length ccap) nv pv xs fuel := by
      have := HRA.out
      rw [dc_live ho hl3] at this
      exact this.set (Dc.s_dn this.b.r8 _ nv pv fuel (m.dn + 1)) this.b.r8
    have hMB : Mw (ftD B nv pv) (ftD B nv pv) w (WA.setCell ⟨B, 3, none⟩ (.int .i64 ((m.dn : Int) + 1))) := HMA.out.trans (mw_set WA 3 (.int .i64 ((m.dn : Int) + 1)))
    have hXBB : (WA.setCell ⟨B, 3, none⟩ (.int .i64 ((m.dn : Int) + 1))).heap[w.heap.size]? = some (.cells #[.int .i64 1, .int .i64 (a : Int), .int .i64 (b : Int), .int .i64 (c : Int), .int .i64 n, .int .u64 (k : Int)] 66) := ((grown_set WA B 3 (.int .i64 ((m.dn : Int) + 1))).block _ hxl (by simp; omega)).trans HXB.out
    generalize WA.setCell ⟨B, 3, none⟩ (.int .i64 ((m.dn : Int) + 1)) = WB at *
    have HXBB := hide hXBB
    have y0 := (six_of hXBB).1.1
    have y1 := (six_of hXBB).1.2.1
    have y2 := (six_of hXBB).1.2.2.1
    have y3 := (six_of hXBB).1.2.2.2.1
    have y4 := (six_of hXBB).1.2.2.2.2.1
    have y5 := (six_of hXBB).1.2.2.2.2.2
    have hyl := lt_of_block hXBB
    have HRB := hide hRB
    have HMB := hide hMB
    have r8 : m.R.length = 8 := hRB.b.r8
    have hltB := hRB.b.lt
    clear hRB hMB hXBB x0 x1 x2 x3 x4 x5 c0 c1 c2 c3 c14 c15 c17 c18 c16A zA hltA hxl HXB HRA HMA
    have zR := HRB.out.b.z (4 + a)
    have cRB := HRB.out.b.cell (Dc.gR HRB.out.b.r8 _ nv pv fuel a ha)
    have u1 : (WB.setCell ⟨B, 4 + a, none⟩ (.int .u64 (k : Int))).cell? ⟨w.heap.size, 1, none⟩ = some (.int .i64 (a : Int)) := (grown_set WB B (4 + a) _).cell y1 (by simp; omega)
    have u5 : (WB.setCell ⟨B, 4 + a, none⟩ (.int .u64 (k : Int))).cell? ⟨w.heap.size, 5, none⟩ = some (.int .u64 (k : Int)) := (grown_set WB B (4 + a) _).cell y5 (by simp; omega)
    obtain ⟨ra, hra⟩ : ∃ ra, m.R[a]! = ra := ⟨_, rfl⟩
    have cRB : WB.cell? ⟨B, 4 + a, none⟩ = some (.int .u64 (ra : Int)) := by rw [← hra]; exact cRB
    clear hra
    go_region_held3 (fun w' => w'.cell? ⟨w.heap.size, 1, none⟩ = some (.int .i64 (a : Int)) ∧ w'.cell? ⟨w.heap.size, 5, none⟩ = some (.int .u64 (k : Int))) (first | exact ⟨y1, y5⟩ | exact ⟨u1, u5⟩ | go_keep) (fail)
    have s0 : (WB.setCell ⟨B, 4 + a, none⟩ (.int .u64 (k : Int))).drew.cell? ⟨w.heap.size, 0, none⟩ = some (.int .i64 1) := (grown_set WB B (4 + a) _).cell y0 (by simp; omega)
    have hwl : w.heap.size < (WB.setCell ⟨B, 4 + a, none⟩ (.int .u64 (k : Int))).drew.heap.size := by simpa using hyl
    have HD : Hid (Im.doM (Im.ready m) ⟨1, (a : Int), (b : Int), (c : Int), n, k⟩ xs.length = (0, { Im.ready m with R := m.R.set a k }, 0, ByteArray.empty)) := rfl
    obtain ⟨M, hM⟩ : ∃ M, M = ({ Im.ready m with R := m.R.set a k } : Mc) := ⟨_, rfl⟩
    have hMpl : M.pl = m.pl + 1 := by rw [hM]; rfl
    have HMo : Hid (M.ov = false) := by rw [hM]; exact ho
    have HMe : Hid (M.en = 0) := by rw [hM]; exact hl3
    have hRT : Rm (WB.setCell ⟨B, 4 + a, none⟩ (.int .u64 (k : Int))).drew B ⟨m.pl, M.dn, M.R, M.ch, M.pc, false, 0, 0⟩ (M.S.take M.sn) (M.P.take M.pn) (.slice (some ⟨cb, off, none⟩) xs.length ccap) nv pv xs fuel := by rw [hM]; exact (HRB.out.set (Dc.sR HRB.out.b.r8 _ nv pv fuel a k ha) (by show (m.R.set a k).length = 8; rw [List.length_set]; exact r8)).below (bd_drew _ 1)
    have hMT : Mw (ftD B nv pv) (ftD B nv pv) w (WB.setCell ⟨B, 4 + a, none⟩ (.int .u64 (k : Int))).drew := (HMB.out.trans (mw_set WB (4 + a) _)).trans (mw_below (bd_drew _ 1))
    have hr8 : M.R.length = 8 := hRT.b.r8
    obtain ⟨r0, hR0⟩ : ∃ r0, M.R[0]! = r0 := ⟨_, rfl⟩
    rw [← hM] at HD
    generalize (WB.setCell ⟨B, 4 + a, none⟩ (.int .u64 (k : Int))).drew = WT at *
    have HRT := hide hRT
    have HMT := hide hMT
    have v2 : WT.cell? ⟨B, 2, none⟩ = some (.int .i64 (m.pl : Int)) := hRT.b.cell (Dc.g_pl hRT.b.r8 _ _ _ fuel)
    have vz := hRT.b.z
    have vlt := hRT.b.lt
    clear hRT hMT hM HRB HMB y0 y1 y2 y3 y4 y5 u1 u5 cRB zR HXBB
    go_wp2_with fail
    have hRV : Rm (WT.setCell ⟨B, 2, none⟩ (.int .i64 ((m.pl : Int) + 1))) B ⟨M.pl, M.dn, M.R, M.ch, M.pc, false, 0, 0⟩ (M.S.take M.sn) (M.P.take M.pn) (.slice (some ⟨cb, off, none⟩) xs.length ccap) nv pv xs fuel := by rw [hMpl]; exact HRT.out.set (Dc.s_pl (by exact hr8) _ _ _ fuel (m.pl + 1)) (by exact hr8)
    have hMV := HMT.out.trans (mw_set WT 2 (.int .i64 ((m.pl : Int) + 1)))
    have s0' : (WT.setCell ⟨B, 2, none⟩ (.int .i64 ((m.pl : Int) + 1))).cell? ⟨w.heap.size, 0, none⟩ = some (.int .i64 1) := (grown_set WT B 2 _).cell s0 (by simp; omega)
    have hwl' : w.heap.size < (WT.setCell ⟨B, 2, none⟩ (.int .i64 ((m.pl : Int) + 1))).heap.size := by simpa using hwl
    have t2 : (WT.setCell ⟨B, 2, none⟩ (.int .i64 ((m.pl : Int) + 1))).cell? ⟨B, 2, none⟩ = some (.int .i64 (M.pl : Int)) := hRV.b.cell (Dc.g_pl hRV.b.r8 _ _ _ fuel)
    generalize WT.setCell ⟨B, 2, none⟩ (.int .i64 ((m.pl : Int) + 1)) = WV at *
    have HRV := hide hRV
    have HMV := hide hMV
    clear hRV hMV HRT HMT s0 hwl v2 vz vlt
    have t0 : WV.cell? ⟨B, 0, none⟩ = some (.int .i64 (fuel : Int)) := HRV.out.b.cell (Dc.g_fuel HRV.out.b.r8 _ _ _ fuel)
    have t1 : WV.cell? ⟨B, 1, none⟩ = some (.slice (some ⟨cb, off, none⟩) xs.length ccap) := HRV.out.b.cell (Dc.g_v HRV.out.b.r8 _ _ _ fuel)
    have t3 : WV.cell? ⟨B, 3, none⟩ = some (.int .i64 (M.dn : Int)) := HRV.out.b.cell (Dc.g_dn HRV.out.b.r8 _ _ _ fuel)
    have t16 : WV.cell? ⟨B, 16, none⟩ = some (.bool false) := HRV.out.b.cell (Dc.g_ov HRV.out.b.r8 _ _ _ fuel)
    have t17 : WV.cell? ⟨B, 17, none⟩ = some (.int .i64 0) := HRV.out.b.cell (Dc.g_rc HRV.out.b.r8 _ _ _ fuel)
    have t18 : WV.cell? ⟨B, 18, none⟩ = some (.int .u64 0) := HRV.out.b.cell (Dc.g_rb HRV.out.b.r8 _ _ _ fuel)
    have tR : WV.cell? ⟨B, 4, none⟩ = some (.int .u64 (r0 : Int)) := by rw [← hR0]; exact HRV.out.b.cell (Dc.gR HRV.out.b.r8 _ _ _ fuel 0 (by decide))
    have tz := HRV.out.b.z
    have tlt := HRV.out.b.lt
    by_cases e1 : M.pl = xs.length
    · have e1i : ((M.pl : Int) == (xs.length : Int)) = true := by rw [beq_iff_eq]; omega
      go_quiet (fail)
      go_wp2_with fail
      go_ret3
      exact fin_end HX.out HD.out HMo.out HMe.out e1 (by rw [hR0]; exact (((HRV.out.below (bd_drew WV nq)).set (Dc.s_ov (by exact hr8) _ _ _ fuel true) (by exact hr8)).set (Dc.s_rc (by exact hr8) _ _ _ fuel 0) (by exact hr8)).set (Dc.s_rb (by exact hr8) _ _ _ fuel r0) (by exact hr8)) ((((HMV.out.trans (mw_below (bd_drew WV nq))).trans (mw_set _ 16 _)).trans (mw_set _ 17 _)).trans (mw_set _ 18 _))
    · have e1i : ((M.pl : Int) == (xs.length : Int)) = false := by rw [beq_eq_false_iff_ne]; omega
      by_cases e2 : M.dn = fuel
      · have e2i : ((M.dn : Int) == (fuel : Int)) = true := by rw [beq_iff_eq]; omega
        go_quiet (fail)
        go_wp2_with fail
        go_quiet (fail)
        go_wp2_with fail
        go_ret3
        exact fin_fuel HX.out HD.out HMo.out e1 e2 ((((HRV.out.below (bd_drew WV _)).set (Dc.s_ov (by exact hr8) _ _ _ fuel true) (by exact hr8)).set (Dc.s_rc (by exact hr8) _ _ _ fuel 1) (by exact hr8)).set (Dc.s_rb (by exact hr8) _ _ _ fuel 0) (by exact hr8)) ((((HMV.out.trans (mw_below (bd_drew WV _))).trans (mw_set _ 16 _)).trans (mw_set _ 17 _)).trans (mw_set _ 18 _))
      · have e2i : ((M.dn : Int) == (fuel : Int)) = false := by rw [beq_eq_false_iff_ne]; omega
        go_quiet (fail)
        go_wp2_with fail
        go_quiet (fail)
        go_wp2_with fail
        go_ret3
        exact fin_on HX.out HD.out HMo.out HMe.out e1 e2 (HRV.out.below (bd_drew2 WV _ _)) (HMV.out.trans (mw_below (bd_drew2 WV _ _)))
  · by_cases h13 : op ≤ 13
    · have hb1 : (op == 1) = false := beq_eq_false_iff_ne.mpr h1
      have h2 : 2 ≤ op := by have := hG.op1; simp only at this; omega
      have h24 : (op == 24) = false := by rw [beq_eq_false_iff_ne]; omega
      go_wp2_with fail
      have hRB : Rm (WA.setCell ⟨B, 3, none⟩ (.int .i64 ((m.dn : Int) + 1))) B ⟨m.pl, m.dn + 1, m.R, m.ch, m.pc, false, 0, 0⟩ (m.S.take m.sn) (m.P.take m.pn) (.slice (some ⟨cb, off, none⟩) xs.length ccap) nv pv xs fuel := by
        have := HRA.out
        rw [dc_live ho hl3] at this
        exact this.set (Dc.s_dn this.b.r8 _ nv pv fuel (m.dn + 1)) this.b.r8
      have hMB : Mw (ftD B nv pv) (ftD B nv pv) w (WA.setCell ⟨B, 3, none⟩ (.int .i64 ((m.dn : Int) + 1))) := HMA.out.trans (mw_set WA 3 (.int .i64 ((m.dn : Int) + 1)))
      have hXBB : (WA.setCell ⟨B, 3, none⟩ (.int .i64 ((m.dn : Int) + 1))).heap[w.heap.size]? = some (.cells #[.int .i64 op, .int .i64 (a : Int), .int .i64 (b : Int), .int .i64 (c : Int), .int .i64 n, .int .u64 (k : Int)] 66) := ((grown_set WA B 3 (.int .i64 ((m.dn : Int) + 1))).block _ hxl (by simp; omega)).trans HXB.out
      generalize WA.setCell ⟨B, 3, none⟩ (.int .i64 ((m.dn : Int) + 1)) = WB at *
      have HXBB := hide hXBB
      have y0 := (six_of hXBB).1.1
      have y1 := (six_of hXBB).1.2.1
      have y2 := (six_of hXBB).1.2.2.1
      have y3 := (six_of hXBB).1.2.2.2.1
      have y4 := (six_of hXBB).1.2.2.2.2.1
      have y5 := (six_of hXBB).1.2.2.2.2.2
      have hyl := lt_of_block hXBB
      have HRB := hide hRB
      have HMB := hide hMB
      have r8 : m.R.length = 8 := hRB.b.r8
      have hltB := hRB.b.lt
      clear hRB hMB hXBB x0 x1 x2 x3 x4 x5 c0 c1 c2 c3 c14 c15 c17 c18 c16A zA hltA hxl HXB HRA HMA
      obtain ⟨ra, hra⟩ : ∃ ra, m.R[a]! = ra := ⟨_, rfl⟩
      obtain ⟨rb, hrb⟩ : ∃ rb, m.R[b]! = rb := ⟨_, rfl⟩
      obtain ⟨rc, hrc⟩ : ∃ rc, m.R[c]! = rc := ⟨_, rfl⟩
      have ca' : WB.cell? ⟨B, 4 + a, none⟩ = some (.int .u64 (ra : Int)) := by rw [← hra]; exact HRB.out.b.cell (Dc.gR HRB.out.b.r8 _ nv pv fuel a ha)
      have cb' : WB.cell? ⟨B, 4 + b, none⟩ = some (.int .u64 (rb : Int)) := by rw [← hrb]; exact HRB.out.b.cell (Dc.gR HRB.out.b.r8 _ nv pv fuel b hb)
      have cc' : WB.cell? ⟨B, 4 + c, none⟩ = some (.int .u64 (rc : Int)) := by rw [← hrc]; exact HRB.out.b.cell (Dc.gR HRB.out.b.r8 _ nv pv fuel c hc)
      have HCk := hide (fun w' => reckons_any op h2 h13 rb rc (by rw [← hrb]; exact (get_wd hk.wR b).1) (by rw [← hrc]; exact (get_wd hk.wR c).1) w')
      have HD : Hid (Im.doM (Im.ready m) ⟨op, (a : Int), (b : Int), (c : Int), n, k⟩ xs.length = (0, { Im.ready m with R := m.R.set a (Im.reck op rb rc) }, 0, ByteArray.empty)) := by
        unfold Im.doM
        rw [if_neg h1, if_pos h13]
        show (0, ({ Im.ready m with R := m.R.set a (Im.reck op m.R[b]! m.R[c]!) } : Mc), 0, ByteArray.empty) = _
        rw [hrb, hrc]
      generalize Im.reck op rb rc = rr at *
      clear hra hrb hrc
      refine wp_region_but (S := (fun w' => w'.cell? ⟨w.heap.size, 1, none⟩ = some (.int .i64 (a : Int)) ∧ w'.cell? ⟨w.heap.size, 0, none⟩ = some (.int .i64 op) ∧ w'.cell? ⟨w.heap.size, 2, none⟩ = some (.int .i64 (b : Int)) ∧ w'.cell? ⟨w.heap.size, 3, none⟩ = some (.int .i64 (c : Int)) ∧ w'.cell? ⟨B, 4 + b, none⟩ = some (.int .u64 (rb : Int)) ∧ w'.cell? ⟨B, 4 + c, none⟩ = some (.int .u64 (rc : Int)))) 23 (by kernel_rfl) ⟨y1, y0, y2, y3, cb', cc'⟩ (fun hH => ?_)
      refine anyBut_plain (i := 0) (v := .pointer (some ⟨B, 0, none⟩)) rfl (by decide) (by kernel_rfl) (by kernel_rfl) (by kernel_rfl) (fun _ _ _ h => h) (Or.inl ⟨by kernel_rfl, fun w9 _ => by kernel_rfl⟩) hH ?_
      simp only [Act.put, List.setIfInBounds_toArray]
      refine anyBut_plain (i := 1) (v := .pointer (some ⟨w.heap.size, 1, none⟩)) rfl (by decide) (by kernel_rfl) (by kernel_rfl) (by kernel_rfl) (fun _ _ _ h => h) (Or.inl ⟨by kernel_rfl, fun w9 _ => by go_simp⟩) hH ?_
      try simp only [Act.put]
      refine anyBut_load (i := 2) (v := .int .i64 (a : Int)) rfl (by decide) (by kernel_rfl) (by kernel_rfl) (by kernel_rfl) (by kernel_rfl) (by kernel_rfl) (fun _ _ _ h => h) (Or.inl ⟨by kernel_rfl, fun w9 hS => by obtain ⟨s0, s1, s2, s3, s4, s5⟩ := hS; go_simp⟩) hH ?_
      try simp only [Act.put]
      refine anyBut_plain (i := 3) (v := .pointer (some ⟨w.heap.size, 0, none⟩)) rfl (by decide) (by kernel_rfl) (by kernel_rfl) (by kernel_rfl) (fun _ _ _ h => h) (Or.inl ⟨by kernel_rfl, fun w9 _ => by go_simp⟩) hH ?_
      try simp only [Act.put]
      refine anyBut_load (i := 4) (v := .int .i64 op) rfl (by decide) (by kernel_rfl) (by kernel_rfl) (by kernel_rfl) (by kernel_rfl) (by kernel_rfl) (fun _ _ _ h => h) (Or.inl ⟨by kernel_rfl, fun w9 hS => by obtain ⟨s0, s1, s2, s3, s4, s5⟩ := hS; go_simp⟩) hH ?_
      try simp only [Act.put]
      refine anyBut_plain (i := 5) (v := .pointer (some ⟨B, 0, none⟩)) rfl (by decide) (by kernel_rfl) (by kernel_rfl) (by kernel_rfl) (fun _ _ _ h => h) (Or.inl ⟨by kernel_rfl, fun w9 _ => by kernel_rfl⟩) hH ?_
      try simp only [Act.put]
      refine anyBut_plain (i := 6) (v := .pointer (some ⟨w.heap.size, 2, none⟩)) rfl (by decide) (by kernel_rfl) (by kernel_rfl) (by kernel_rfl) (fun _ _ _ h => h) (Or.inl ⟨by kernel_rfl, fun w9 _ => by go_simp⟩) hH ?_
      try simp only [Act.put]
      refine anyBut_load (i := 7) (v := .int .i64 (b : Int)) rfl (by decide) (by kernel_rfl) (by kernel_rfl) (by kernel_rfl) (by kernel_rfl) (by kernel_rfl) (fun _ _ _ h => h) (Or.inl ⟨by kernel_rfl, fun w9 hS => by obtain ⟨s0, s1, s2, s3, s4, s5⟩ := hS; go_simp⟩) hH ?_
      try simp only [Act.put]
      refine anyBut_plain (i := 8) (v := .pointer (some ⟨B, 0, none⟩)) rfl (by decide) (by kernel_rfl) (by kernel_rfl) (by kernel_rfl) (fun _ _ _ h => h) (Or.inl ⟨by kernel_rfl, fun w9 _ => by go_simp⟩) hH ?_
      try simp only [Act.put]
      refine anyBut_plain (i := 9) (v := .pointer (some ⟨B, 4, none⟩)) rfl (by decide) (by kernel_rfl) (by kernel_rfl) (by kernel_rfl) (fun _ _ _ h => h) (Or.inl ⟨by kernel_rfl, fun w9 _ => by go_simp⟩) hH ?_
      try simp only [Act.put]
      refine anyBut_plain (i := 10) (v := .pointer (some ⟨B, 4 + b, none⟩)) rfl (by decide) (by kernel_rfl) (by kernel_rfl) (by kernel_rfl) (fun _ _ _ h => h) (Or.inl ⟨by kernel_rfl, fun w9 _ => by go_simp⟩) hH ?_
      try simp only [Act.put]
      refine anyBut_load (i := 11) (v := .int .u64 (rb : Int)) rfl (by decide) (by kernel_rfl) (by kernel_rfl) (by kernel_rfl) (by kernel_rfl) (by kernel_rfl) (fun _ _ _ h => h) (Or.inl ⟨by kernel_rfl, fun w9 hS => by obtain ⟨s0, s1, s2, s3, s4, s5⟩ := hS; go_simp⟩) hH ?_
      try simp only [Act.put]
      refine anyBut_plain (i := 12) (v := .pointer (some ⟨B, 0, none⟩)) rfl (by decide) (by kernel_rfl) (by kernel_rfl) (by kernel_rfl) (fun _ _ _ h => h) (Or.inl ⟨by kernel_rfl, fun w9 _ => by kernel_rfl⟩) hH ?_
      try simp only [Act.put]
      refine anyBut_plain (i := 13) (v := .pointer (some ⟨w.heap.size, 3, none⟩)) rfl (by decide) (by kernel_rfl) (by kernel_rfl) (by kernel_rfl) (fun _ _ _ h => h) (Or.inl ⟨by kernel_rfl, fun w9 _ => by go_simp⟩) hH ?_
      try simp only [Act.put]
      refine anyBut_load (i := 14) (v := .int .i64 (c : Int)) rfl (by decide) (by kernel_rfl) (by kernel_rfl) (by kernel_rfl) (by kernel_rfl) (by kernel_rfl) (fun _ _ _ h => h) (Or.inl ⟨by kernel_rfl, fun w9 hS => by obtain ⟨s0, s1, s2, s3, s4, s5⟩ := hS; go_simp⟩) hH ?_
      try simp only [Act.put]
      refine anyBut_plain (i := 15) (v := .pointer (some ⟨B, 0, none⟩)) rfl (by decide) (by kernel_rfl) (by kernel_rfl) (by kernel_rfl) (fun _ _ _ h => h) (Or.inl ⟨by kernel_rfl, fun w9 _ => by go_simp⟩) hH ?_
      try simp only [Act.put]
      refine anyBut_plain (i := 16) (v := .pointer (some ⟨B, 4, none⟩)) rfl (by decide) (by kernel_rfl) (by kernel_rfl) (by kernel_rfl) (fun _ _ _ h => h) (Or.inl ⟨by kernel_rfl, fun w9 _ => by go_simp⟩) hH ?_
      try simp only [Act.put]
      refine anyBut_plain (i := 17) (v := .pointer (some ⟨B, 4 + c, none⟩)) rfl (by decide) (by kernel_rfl) (by kernel_rfl) (by kernel_rfl) (fun _ _ _ h => h) (Or.inl ⟨by kernel_rfl, fun w9 _ => by go_simp⟩) hH ?_
      try simp only [Act.put]
      refine anyBut_load (i := 18) (v := .int .u64 (rc : Int)) rfl (by decide) (by kernel_rfl) (by kernel_rfl) (by kernel_rfl) (by kernel_rfl) (by kernel_rfl) (fun _ _ _ h => h) (Or.inl ⟨by kernel_rfl, fun w9 hS => by obtain ⟨s0, s1, s2, s3, s4, s5⟩ := hS; go_simp⟩) hH ?_
      try simp only [Act.put]
      refine anyBut_plain (i := 20) (v := .pointer (some ⟨B, 0, none⟩)) rfl (by decide) (by kernel_rfl) (by kernel_rfl) (by kernel_rfl) (fun _ _ _ h => h) (Or.inl ⟨by kernel_rfl, fun w9 _ => by go_simp⟩) hH ?_
      try simp only [Act.put]
      refine anyBut_plain (i := 21) (v := .pointer (some ⟨B, 4, none⟩)) rfl (by decide) (by kernel_rfl) (by kernel_rfl) (by kernel_rfl) (fun _ _ _ h => h) (Or.inl ⟨by kernel_rfl, fun w9 _ => by go_simp⟩) hH ?_
      try simp only [Act.put]
      refine anyBut_one (i := 19) rfl (by kernel_rfl) (fun K hK => ?_)
      go_simp
      refine (HCk.out _).mono ?_
      rintro e w4 ⟨rfl, hb4⟩
      have hb40 : Below WB.heap.size WB w4 := (bd_drew WB 1).trans hb4
      have z1 := (hb40.cell (p := ⟨w.heap.size, 1, none⟩) hyl).trans y1
      have z0 := (hb40.cell (p := ⟨w.heap.size, 0, none⟩) hyl).trans y0
      have z2 := (hb40.cell (p := ⟨w.heap.size, 2, none⟩) hyl).trans y2
      have z3 := (hb40.cell (p := ⟨w.heap.size, 3, none⟩) hyl).trans y3
      have zb := (hb40.cell (p := ⟨B, 4 + b, none⟩) hltB).trans cb'
      have zc := (hb40.cell (p := ⟨B, 4 + c, none⟩) hltB).trans cc'
      have HR4 := hide (HRB.out.below hb40)
      have HM4 := hide (HMB.out.trans (mw_below hb40))
      have hl4 : w.heap.size < w4.heap.size := Nat.lt_of_lt_of_le hyl hb40.size
      have ca4 : w4.cell? ⟨B, 4 + a, none⟩ = some (.int .u64 (ra : Int)) := (hb40.cell (p := ⟨B, 4 + a, none⟩) hltB).trans ca'
      have za4 := HR4.out.b.z (4 + a)
      have hlt4 := HR4.out.b.lt
      clear hb4 hb40
      refine hK.out _ _ (fun _ => ⟨z1, z0, z2, z3, zb, zc⟩) ?_
      clear hK K
      try simp only [Act.put]
      refine anyBut_plain (i := 22) (v := .pointer (some ⟨B, 4 + a, none⟩)) rfl (by decide) (by kernel_rfl) (by kernel_rfl) (by kernel_rfl) (fun _ _ _ h => h) (Or.inl ⟨by kernel_rfl, fun w9 _ => by go_simp⟩) ⟨z1, z0, z2, z3, zb, zc⟩ ?_
      try simp only [Act.put]
      refine anyBut_one (i := 23) rfl (by kernel_rfl) (fun K hK => ?_)
      go_simp
      refine hK.out _ _ (fun h0 => absurd h0 (by decide)) (anyBut_done (by kernel_rfl) ?_ _)
      clear hK K hH
      have s0 : (w4.setCell ⟨B, 4 + a, none⟩ (.int .u64 (rr : Int))).cell? ⟨w.heap.size, 0, none⟩ = some (.int .i64 op) := (grown_set w4 B (4 + a) _).cell z0 (by simp; omega)
      have hwl : w.heap.size < (w4.setCell ⟨B, 4 + a, none⟩ (.int .u64 (rr : Int))).heap.size := by simpa using hl4
      obtain ⟨M, hM⟩ : ∃ M, M = ({ Im.ready m with R := m.R.set a rr } : Mc) := ⟨_, rfl⟩
      have hMpl : M.pl = m.pl + 1 := by rw [hM]; rfl
      have HMo : Hid (M.ov = false) := by rw [hM]; exact ho
      have HMe : Hid (M.en = 0) := by rw [hM]; exact hl3
      have hRT : Rm (w4.setCell ⟨B, 4 + a, none⟩ (.int .u64 (rr : Int))) B ⟨m.pl, M.dn, M.R, M.ch, M.pc, false, 0, 0⟩ (M.S.take M.sn) (M.P.take M.pn) (.slice (some ⟨cb, off, none⟩) xs.length ccap) nv pv xs fuel := by rw [hM]; exact HR4.out.set (Dc.sR HR4.out.b.r8 _ nv pv fuel a rr ha) (by show (m.R.set a rr).length = 8; rw [List.length_set]; exact r8)
      have hMT : Mw (ftD B nv pv) (ftD B nv pv) w (w4.setCell ⟨B, 4 + a, none⟩ (.int .u64 (rr : Int))) := HM4.out.trans (mw_set w4 (4 + a) _)
      have hr8 : M.R.length = 8 := hRT.b.r8
      obtain ⟨r0, hR0⟩ : ∃ r0, M.R[0]! = r0 := ⟨_, rfl⟩
      rw [← hM] at HD
      generalize (w4.setCell ⟨B, 4 + a, none⟩ (.int .u64 (rr : Int))) = WT at *
      have HRT := hide hRT
      have HMT := hide hMT
      have v2 : WT.cell? ⟨B, 2, none⟩ = some (.int .i64 (m.pl : Int)) := hRT.b.cell (Dc.g_pl hRT.b.r8 _ _ _ fuel)
      have vz := hRT.b.z
      have vlt := hRT.b.lt
      clear hRT hMT hM HRB HMB HR4 HM4 y0 y1 y2 y3 y4 y5 z0 z1 z2 z3 zb zc ca4 za4 ca' cb' cc' HXBB HCk
      go_wp2_with fail
      have hRV : Rm (WT.setCell ⟨B, 2, none⟩ (.int .i64 ((m.pl : Int) + 1))) B ⟨M.pl, M.dn, M.R, M.ch, M.pc, false, 0, 0⟩ (M.S.take M.sn) (M.P.take M.pn) (.slice (some ⟨cb, off, none⟩) xs.length ccap) nv pv xs fuel := by rw [hMpl]; exact HRT.out.set (Dc.s_pl (by exact hr8) _ _ _ fuel (m.pl + 1)) (by exact hr8)
      have hMV := HMT.out.trans (mw_set WT 2 (.int .i64 ((m.pl : Int) + 1)))
      have s0' : (WT.setCell ⟨B, 2, none⟩ (.int .i64 ((m.pl : Int) + 1))).cell? ⟨w.heap.size, 0, none⟩ = some (.int .i64 op) := (grown_set WT B 2 _).cell s0 (by simp; omega)
      have hwl' : w.heap.size < (WT.setCell ⟨B, 2, none⟩ (.int .i64 ((m.pl : Int) + 1))).heap.size := by simpa using hwl
      have t2 : (WT.setCell ⟨B, 2, none⟩ (.int .i64 ((m.pl : Int) + 1))).cell? ⟨B, 2, none⟩ = some (.int .i64 (M.pl : Int)) := hRV.b.cell (Dc.g_pl hRV.b.r8 _ _ _ fuel)
      generalize WT.setCell ⟨B, 2, none⟩ (.int .i64 ((m.pl : Int) + 1)) = WV at *
      have HRV := hide hRV
      have HMV := hide hMV
      clear hRV hMV HRT HMT s0 hwl v2 vz vlt
      have t0 : WV.cell? ⟨B, 0, none⟩ = some (.int .i64 (fuel : Int)) := HRV.out.b.cell (Dc.g_fuel HRV.out.b.r8 _ _ _ fuel)
      have t1 : WV.cell? ⟨B, 1, none⟩ = some (.slice (some ⟨cb, off, none⟩) xs.length ccap) := HRV.out.b.cell (Dc.g_v HRV.out.b.r8 _ _ _ fuel)
      have t3 : WV.cell? ⟨B, 3, none⟩ = some (.int .i64 (M.dn : Int)) := HRV.out.b.cell (Dc.g_dn HRV.out.b.r8 _ _ _ fuel)
      have t16 : WV.cell? ⟨B, 16, none⟩ = some (.bool false) := HRV.out.b.cell (Dc.g_ov HRV.out.b.r8 _ _ _ fuel)
      have t17 : WV.cell? ⟨B, 17, none⟩ = some (.int .i64 0) := HRV.out.b.cell (Dc.g_rc HRV.out.b.r8 _ _ _ fuel)
      have t18 : WV.cell? ⟨B, 18, none⟩ = some (.int .u64 0) := HRV.out.b.cell (Dc.g_rb HRV.out.b.r8 _ _ _ fuel)
      have tR : WV.cell? ⟨B, 4, none⟩ = some (.int .u64 (r0 : Int)) := by rw [← hR0]; exact HRV.out.b.cell (Dc.gR HRV.out.b.r8 _ _ _ fuel 0 (by decide))
      have tz := HRV.out.b.z
      have tlt := HRV.out.b.lt
      by_cases e1 : M.pl = xs.length
      · have e1i : ((M.pl : Int) == (xs.length : Int)) = true := by rw [beq_iff_eq]; omega
        go_quiet (fail)
        go_wp2_with fail
        go_ret3
        exact fin_end HX.out HD.out HMo.out HMe.out e1 (by rw [hR0]; exact (((HRV.out.below (bd_drew WV nq)).set (Dc.s_ov (by exact hr8) _ _ _ fuel true) (by exact hr8)).set (Dc.s_rc (by exact hr8) _ _ _ fuel 0) (by exact hr8)).set (Dc.s_rb (by exact hr8) _ _ _ fuel r0) (by exact hr8)) ((((HMV.out.trans (mw_below (bd_drew WV nq))).trans (mw_set _ 16 _)).trans (mw_set _ 17 _)).trans (mw_set _ 18 _))
      · have e1i : ((M.pl : Int) == (xs.length : Int)) = false := by rw [beq_eq_false_iff_ne]; omega
        by_cases e2 : M.dn = fuel
        · have e2i : ((M.dn : Int) == (fuel : Int)) = true := by rw [beq_iff_eq]; omega
          go_quiet (fail)
          go_wp2_with fail
          go_quiet (fail)
          go_wp2_with fail
          go_ret3
          exact fin_fuel HX.out HD.out HMo.out e1 e2 ((((HRV.out.below (bd_drew WV _)).set (Dc.s_ov (by exact hr8) _ _ _ fuel true) (by exact hr8)).set (Dc.s_rc (by exact hr8) _ _ _ fuel 1) (by exact hr8)).set (Dc.s_rb (by exact hr8) _ _ _ fuel 0) (by exact hr8)) ((((HMV.out.trans (mw_below (bd_drew WV _))).trans (mw_set _ 16 _)).trans (mw_set _ 17 _)).trans (mw_set _ 18 _))
        · have e2i : ((M.dn : Int) == (fuel : Int)) = false := by rw [beq_eq_false_iff_ne]; omega
          go_quiet (fail)
          go_wp2_with fail
          go_quiet (fail)
          go_wp2_with fail
          go_ret3
          exact fin_on HX.out HD.out HMo.out HMe.out e1 e2 (HRV.out.below (bd_drew2 WV _ _)) (HMV.out.trans (mw_below (bd_drew2 WV _ _)))
    · by_cases h21 : op = 21
      · subst h21
        by_cases hch : m.ch = 32
        · rw [hch] at c14
          go_wp2_with fail
          go_ret3
          have hL := HRA.out
          rw [dc_live ho hl3] at hL
          have r8 : m.R.length = 8 := hL.b.r8
          exact fin_trap (t := 5) HX.out (by show (if m.ch = 32 then (5, Im.ready m, 0, ByteArray.empty) else (0, { Im.ready m with ch := m.ch + 1 }, 1, textB m.R[(a : Int).toNat]!)).1 = 5; rw [if_pos hch]) (by decide) (((((hL.set (Dc.s_dn (by exact r8) _ _ _ fuel (m.dn + 1)) (by exact r8)).set (Dc.s_pl (by exact r8) _ _ _ fuel m.pl) (by exact r8)).set (Dc.s_ov (by exact r8) _ _ _ fuel true) (by exact r8)).set (Dc.s_rc (by exact r8) _ _ _ fuel 5) (by exact r8)).set (Dc.s_rb (by exact r8) _ _ _ fuel 0) (by exact r8)) (((((HMA.out.trans (mw_set _ 3 _)).trans (mw_set _ 2 _)).trans (mw_set _ 16 _)).trans (mw_set _ 17 _)).trans (mw_set _ 18 _))
        · have hchb : ((m.ch : Int) == 32) = false := by rw [beq_eq_false_iff_ne]; omega
          go_wp2_with fail
          have hRB : Rm ((WA.setCell ⟨B, 3, none⟩ (.int .i64 ((m.dn : Int) + 1))).setCell ⟨B, 14, none⟩ (.int .i64 ((m.ch : Int) + 1))) B ⟨m.pl, m.dn + 1, m.R, m.ch + 1, m.pc, false, 0, 0⟩ (m.S.take m.sn) (m.P.take m.pn) (.slice (some ⟨cb, off, none⟩) xs.length ccap) nv pv xs fuel := by
            have hL := HRA.out
            rw [dc_live ho hl3] at hL
            have r8 : m.R.length = 8 := hL.b.r8
            exact (hL.set (Dc.s_dn (by exact r8) _ _ _ fuel (m.dn + 1)) (by exact r8)).set (Dc.s_ch (by exact r8) _ _ _ fuel (m.ch + 1)) (by exact r8)
          have hMB : Mw (ftD B nv pv) (ftD B nv pv) w ((WA.setCell ⟨B, 3, none⟩ (.int .i64 ((m.dn : Int) + 1))).setCell ⟨B, 14, none⟩ (.int .i64 ((m.ch : Int) + 1))) := (HMA.out.trans (mw_set WA 3 (.int .i64 ((m.dn : Int) + 1)))).trans (mw_set _ 14 (.int .i64 ((m.ch : Int) + 1)))
          have hXBB : ((WA.setCell ⟨B, 3, none⟩ (.int .i64 ((m.dn : Int) + 1))).setCell ⟨B, 14, none⟩ (.int .i64 ((m.ch : Int) + 1))).heap[w.heap.size]? = some (.cells #[.int .i64 21, .int .i64 (a : Int), .int .i64 (b : Int), .int .i64 (c : Int), .int .i64 n, .int .u64 (k : Int)] 66) := ((grown_set _ B 14 (.int .i64 ((m.ch : Int) + 1))).block _ (by simpa using hxl) (by simp; omega)).trans (((grown_set WA B 3 (.int .i64 ((m.dn : Int) + 1))).block _ hxl (by simp; omega)).trans HXB.out)
          generalize ((WA.setCell ⟨B, 3, none⟩ (.int .i64 ((m.dn : Int) + 1))).setCell ⟨B, 14, none⟩ (.int .i64 ((m.ch : Int) + 1))) = WB at *
          have y0 := (six_of hXBB).1.1
          have y1 := (six_of hXBB).1.2.1
          have hyl := lt_of_block hXBB
          have HRB := hide hRB
          have HMB := hide hMB
          have hltB := hRB.b.lt
          obtain ⟨ra, hra⟩ : ∃ ra, m.R[a]! = ra := ⟨_, rfl⟩
          have cRA : WB.cell? ⟨B, 4 + a, none⟩ = some (.int .u64 (ra : Int)) := by rw [← hra]; exact hRB.b.cell (Dc.gR hRB.b.r8 _ nv pv fuel a ha)
          have HTx := hide (fun w' => refText_any ra (by rw [← hra]; exact (get_wd hk.wR a).1) w')
          have HD : Hid (Im.doM (Im.ready m) ⟨21, (a : Int), (b : Int), (c : Int), n, k⟩ xs.length = (0, { Im.ready m with ch := m.ch + 1 }, 1, textB ra)) := by
            show (if m.ch = 32 then (5, Im.ready m, 0, ByteArray.empty) else (0, { Im.ready m with ch := m.ch + 1 }, 1, textB m.R[(a : Int).toNat]!)) = _
            rw [if_neg hch, Int.toNat_natCast, hra]
          generalize textB ra = tx at *
          clear hRB hMB hXBB x0 x1 x2 x3 x4 x5 c0 c1 c2 c3 c14 c15 c17 c18 c16A zA hltA hxl HXB HRA HMA hra
          go_region_held3 (fun w' => w'.cell? ⟨w.heap.size, 1, none⟩ = some (.int .i64 (a : Int)) ∧ w'.cell? ⟨B, 4 + a, none⟩ = some (.int .u64 (ra : Int))) (first | assumption | exact ⟨q1, q2⟩ | exact ⟨y1, cRA⟩ | go_keep) ((go_at_call 42; refine (HTx.out _).mono ?_; rintro e w4 ⟨rfl, hb4⟩; have q1 : w4.cell? ⟨w.heap.size, 1, none⟩ = some (.int .i64 (a : Int)) := (hb4.cell (p := ⟨w.heap.size, 1, none⟩) hyl).trans y1; have q2 : w4.cell? ⟨B, 4 + a, none⟩ = some (.int .u64 (ra : Int)) := (hb4.cell (p := ⟨B, 4 + a, none⟩) hltB).trans cRA))
          have hb40 : Below WB.heap.size WB w4 := (bd_drew WB 1).trans hb4
          have HR4 := hide (HRB.out.below hb40)
          have HM4 := hide (HMB.out.trans (mw_below hb40))
          have s0 : w4.cell? ⟨w.heap.size, 0, none⟩ = some (.int .i64 21) := (hb40.cell (p := ⟨w.heap.size, 0, none⟩) hyl).trans y0
          have hwl : w.heap.size < w4.heap.size := Nat.lt_of_lt_of_le hyl hb40.size
          clear hb4 hb40 q1 q2 HRB HMB HTx
          obtain ⟨M, hM⟩ : ∃ M, M = ({ Im.ready m with ch := m.ch + 1 } : Mc) := ⟨_, rfl⟩
          have hMpl : M.pl = m.pl + 1 := by rw [hM]; rfl
          have HMo : Hid (M.ov = false) := by rw [hM]; exact ho
          have HMe : Hid (M.en = 0) := by rw [hM]; exact hl3
          have hRT : Rm w4 B ⟨m.pl, M.dn, M.R, M.ch, M.pc, false, 0, 0⟩ (M.S.take M.sn) (M.P.take M.pn) (.slice (some ⟨cb, off, none⟩) xs.length ccap) nv pv xs fuel := by rw [hM]; exact HR4.out
          have hMT : Mw (ftD B nv pv) (ftD B nv pv) w w4 := HM4.out
          have hr8 : M.R.length = 8 := hRT.b.r8
          obtain ⟨r0, hR0⟩ : ∃ r0, M.R[0]! = r0 := ⟨_, rfl⟩
          rw [← hM] at HD
          generalize w4 = WT at *
          have HRT := hide hRT
          have HMT := hide hMT
          have v2 : WT.cell? ⟨B, 2, none⟩ = some (.int .i64 (m.pl : Int)) := hRT.b.cell (Dc.g_pl hRT.b.r8 _ _ _ fuel)
          have vz := hRT.b.z
          have vlt := hRT.b.lt
          clear hRT hMT hM HR4 HM4 y0 y1 cRA
          go_wp2_with fail
          have hRV : Rm (WT.setCell ⟨B, 2, none⟩ (.int .i64 ((m.pl : Int) + 1))) B ⟨M.pl, M.dn, M.R, M.ch, M.pc, false, 0, 0⟩ (M.S.take M.sn) (M.P.take M.pn) (.slice (some ⟨cb, off, none⟩) xs.length ccap) nv pv xs fuel := by rw [hMpl]; exact HRT.out.set (Dc.s_pl (by exact hr8) _ _ _ fuel (m.pl + 1)) (by exact hr8)
          have hMV := HMT.out.trans (mw_set WT 2 (.int .i64 ((m.pl : Int) + 1)))
          have s0' : (WT.setCell ⟨B, 2, none⟩ (.int .i64 ((m.pl : Int) + 1))).cell? ⟨w.heap.size, 0, none⟩ = some (.int .i64 21) := (grown_set WT B 2 _).cell s0 (by simp; omega)
          have hwl' : w.heap.size < (WT.setCell ⟨B, 2, none⟩ (.int .i64 ((m.pl : Int) + 1))).heap.size := by simpa using hwl
          have t2 : (WT.setCell ⟨B, 2, none⟩ (.int .i64 ((m.pl : Int) + 1))).cell? ⟨B, 2, none⟩ = some (.int .i64 (M.pl : Int)) := hRV.b.cell (Dc.g_pl hRV.b.r8 _ _ _ fuel)
          generalize WT.setCell ⟨B, 2, none⟩ (.int .i64 ((m.pl : Int) + 1)) = WV at *
          have HRV := hide hRV
          have HMV := hide hMV
          clear hRV hMV HRT HMT s0 hwl v2 vz vlt
          have t0 : WV.cell? ⟨B, 0, none⟩ = some (.int .i64 (fuel : Int)) := HRV.out.b.cell (Dc.g_fuel HRV.out.b.r8 _ _ _ fuel)
          have t1 : WV.cell? ⟨B, 1, none⟩ = some (.slice (some ⟨cb, off, none⟩) xs.length ccap) := HRV.out.b.cell (Dc.g_v HRV.out.b.r8 _ _ _ fuel)
          have t3 : WV.cell? ⟨B, 3, none⟩ = some (.int .i64 (M.dn : Int)) := HRV.out.b.cell (Dc.g_dn HRV.out.b.r8 _ _ _ fuel)
          have t16 : WV.cell? ⟨B, 16, none⟩ = some (.bool false) := HRV.out.b.cell (Dc.g_ov HRV.out.b.r8 _ _ _ fuel)
          have t17 : WV.cell? ⟨B, 17, none⟩ = some (.int .i64 0) := HRV.out.b.cell (Dc.g_rc HRV.out.b.r8 _ _ _ fuel)
          have t18 : WV.cell? ⟨B, 18, none⟩ = some (.int .u64 0) := HRV.out.b.cell (Dc.g_rb HRV.out.b.r8 _ _ _ fuel)
          have tR : WV.cell? ⟨B, 4, none⟩ = some (.int .u64 (r0 : Int)) := by rw [← hR0]; exact HRV.out.b.cell (Dc.gR HRV.out.b.r8 _ _ _ fuel 0 (by decide))
          have tz := HRV.out.b.z
          have tlt := HRV.out.b.lt
          by_cases e1 : M.pl = xs.length
          · have e1i : ((M.pl : Int) == (xs.length : Int)) = true := by rw [beq_iff_eq]; omega
            go_quiet (fail)
            go_wp2_with fail
            go_ret3
            exact fin_end HX.out HD.out HMo.out HMe.out e1 (by rw [hR0]; exact (((HRV.out.below (bd_drew WV nq)).set (Dc.s_ov (by exact hr8) _ _ _ fuel true) (by exact hr8)).set (Dc.s_rc (by exact hr8) _ _ _ fuel 0) (by exact hr8)).set (Dc.s_rb (by exact hr8) _ _ _ fuel r0) (by exact hr8)) ((((HMV.out.trans (mw_below (bd_drew WV nq))).trans (mw_set _ 16 _)).trans (mw_set _ 17 _)).trans (mw_set _ 18 _))
          · have e1i : ((M.pl : Int) == (xs.length : Int)) = false := by rw [beq_eq_false_iff_ne]; omega
            by_cases e2 : M.dn = fuel
            · have e2i : ((M.dn : Int) == (fuel : Int)) = true := by rw [beq_iff_eq]; omega
              go_quiet (fail)
              go_wp2_with fail
              go_quiet (fail)
              go_wp2_with fail
              go_ret3
              exact fin_fuel HX.out HD.out HMo.out e1 e2 ((((HRV.out.below (bd_drew WV _)).set (Dc.s_ov (by exact hr8) _ _ _ fuel true) (by exact hr8)).set (Dc.s_rc (by exact hr8) _ _ _ fuel 1) (by exact hr8)).set (Dc.s_rb (by exact hr8) _ _ _ fuel 0) (by exact hr8)) ((((HMV.out.trans (mw_below (bd_drew WV _))).trans (mw_set _ 16 _)).trans (mw_set _ 17 _)).trans (mw_set _ 18 _))
            · have e2i : ((M.dn : Int) == (fuel : Int)) = false := by rw [beq_eq_false_iff_ne]; omega
              go_quiet (fail)
              go_wp2_with fail
              go_quiet (fail)
              go_wp2_with fail
              go_ret3
              exact fin_on HX.out HD.out HMo.out HMe.out e1 e2 (HRV.out.below (bd_drew2 WV _ _)) (HMV.out.trans (mw_below (bd_drew2 WV _ _)))
      by_cases h22 : op = 22
      · subst h22
        by_cases hch : m.pc = 16
        · rw [hch] at c15
          go_wp2_with fail
          go_ret3
          have hL := HRA.out
          rw [dc_live ho hl3] at hL
          have r8 : m.R.length = 8 := hL.b.r8
          exact fin_trap (t := 6) HX.out (by show (if m.pc = 16 then (6, Im.ready m, 0, ByteArray.empty) else (0, { Im.ready m with pc := m.pc + 1 }, 2, textB m.R[(a : Int).toNat]!)).1 = 6; rw [if_pos hch]) (by decide) (((((hL.set (Dc.s_dn (by exact r8) _ _ _ fuel (m.dn + 1)) (by exact r8)).set (Dc.s_pl (by exact r8) _ _ _ fuel m.pl) (by exact r8)).set (Dc.s_ov (by exact r8) _ _ _ fuel true) (by exact r8)).set (Dc.s_rc (by exact r8) _ _ _ fuel 6) (by exact r8)).set (Dc.s_rb (by exact r8) _ _ _ fuel 0) (by exact r8)) (((((HMA.out.trans (mw_set _ 3 _)).trans (mw_set _ 2 _)).trans (mw_set _ 16 _)).trans (mw_set _ 17 _)).trans (mw_set _ 18 _))
        · have hchb : ((m.pc : Int) == 16) = false := by rw [beq_eq_false_iff_ne]; omega
          go_wp2_with fail
          have hRB : Rm ((WA.setCell ⟨B, 3, none⟩ (.int .i64 ((m.dn : Int) + 1))).setCell ⟨B, 15, none⟩ (.int .i64 ((m.pc : Int) + 1))) B ⟨m.pl, m.dn + 1, m.R, m.ch, m.pc + 1, false, 0, 0⟩ (m.S.take m.sn) (m.P.take m.pn) (.slice (some ⟨cb, off, none⟩) xs.length ccap) nv pv xs fuel := by
            have hL := HRA.out
            rw [dc_live ho hl3] at hL
            have r8 : m.R.length = 8 := hL.b.r8
            exact (hL.set (Dc.s_dn (by exact r8) _ _ _ fuel (m.dn + 1)) (by exact r8)).set (Dc.s_pc (by exact r8) _ _ _ fuel (m.pc + 1)) (by exact r8)
          have hMB : Mw (ftD B nv pv) (ftD B nv pv) w ((WA.setCell ⟨B, 3, none⟩ (.int .i64 ((m.dn : Int) + 1))).setCell ⟨B, 15, none⟩ (.int .i64 ((m.pc : Int) + 1))) := (HMA.out.trans (mw_set WA 3 (.int .i64 ((m.dn : Int) + 1)))).trans (mw_set _ 15 (.int .i64 ((m.pc : Int) + 1)))
          have hXBB : ((WA.setCell ⟨B, 3, none⟩ (.int .i64 ((m.dn : Int) + 1))).setCell ⟨B, 15, none⟩ (.int .i64 ((m.pc : Int) + 1))).heap[w.heap.size]? = some (.cells #[.int .i64 22, .int .i64 (a : Int), .int .i64 (b : Int), .int .i64 (c : Int), .int .i64 n, .int .u64 (k : Int)] 66) := ((grown_set _ B 15 (.int .i64 ((m.pc : Int) + 1))).block _ (by simpa using hxl) (by simp; omega)).trans (((grown_set WA B 3 (.int .i64 ((m.dn : Int) + 1))).block _ hxl (by simp; omega)).trans HXB.out)
          generalize ((WA.setCell ⟨B, 3, none⟩ (.int .i64 ((m.dn : Int) + 1))).setCell ⟨B, 15, none⟩ (.int .i64 ((m.pc : Int) + 1))) = WB at *
          have y0 := (six_of hXBB).1.1
          have y1 := (six_of hXBB).1.2.1
          have hyl := lt_of_block hXBB
          have HRB := hide hRB
          have HMB := hide hMB
          have hltB := hRB.b.lt
          obtain ⟨ra, hra⟩ : ∃ ra, m.R[a]! = ra := ⟨_, rfl⟩
          have cRA : WB.cell? ⟨B, 4 + a, none⟩ = some (.int .u64 (ra : Int)) := by rw [← hra]; exact hRB.b.cell (Dc.gR hRB.b.r8 _ nv pv fuel a ha)
          have HTx := hide (fun w' => refText_any ra (by rw [← hra]; exact (get_wd hk.wR a).1) w')
          have HD : Hid (Im.doM (Im.ready m) ⟨22, (a : Int), (b : Int), (c : Int), n, k⟩ xs.length = (0, { Im.ready m with pc := m.pc + 1 }, 2, textB ra)) := by
            show (if m.pc = 16 then (6, Im.ready m, 0, ByteArray.empty) else (0, { Im.ready m with pc := m.pc + 1 }, 2, textB m.R[(a : Int).toNat]!)) = _
            rw [if_neg hch, Int.toNat_natCast, hra]
          generalize textB ra = tx at *
          clear hRB hMB hXBB x0 x1 x2 x3 x4 x5 c0 c1 c2 c3 c14 c15 c17 c18 c16A zA hltA hxl HXB HRA HMA hra
          go_region_held3 (fun w' => w'.cell? ⟨w.heap.size, 1, none⟩ = some (.int .i64 (a : Int)) ∧ w'.cell? ⟨B, 4 + a, none⟩ = some (.int .u64 (ra : Int))) (first | assumption | exact ⟨q1, q2⟩ | exact ⟨y1, cRA⟩ | go_keep) ((go_at_call 42; refine (HTx.out _).mono ?_; rintro e w4 ⟨rfl, hb4⟩; have q1 : w4.cell? ⟨w.heap.size, 1, none⟩ = some (.int .i64 (a : Int)) := (hb4.cell (p := ⟨w.heap.size, 1, none⟩) hyl).trans y1; have q2 : w4.cell? ⟨B, 4 + a, none⟩ = some (.int .u64 (ra : Int)) := (hb4.cell (p := ⟨B, 4 + a, none⟩) hltB).trans cRA))
          have hb40 : Below WB.heap.size WB w4 := (bd_drew WB 1).trans hb4
          have HR4 := hide (HRB.out.below hb40)
          have HM4 := hide (HMB.out.trans (mw_below hb40))
          have s0 : w4.cell? ⟨w.heap.size, 0, none⟩ = some (.int .i64 22) := (hb40.cell (p := ⟨w.heap.size, 0, none⟩) hyl).trans y0
          have hwl : w.heap.size < w4.heap.size := Nat.lt_of_lt_of_le hyl hb40.size
          clear hb4 hb40 q1 q2 HRB HMB HTx
          obtain ⟨M, hM⟩ : ∃ M, M = ({ Im.ready m with pc := m.pc + 1 } : Mc) := ⟨_, rfl⟩
          have hMpl : M.pl = m.pl + 1 := by rw [hM]; rfl
          have HMo : Hid (M.ov = false) := by rw [hM]; exact ho
          have HMe : Hid (M.en = 0) := by rw [hM]; exact hl3
          have hRT : Rm w4 B ⟨m.pl, M.dn, M.R, M.ch, M.pc, false, 0, 0⟩ (M.S.take M.sn) (M.P.take M.pn) (.slice (some ⟨cb, off, none⟩) xs.length ccap) nv pv xs fuel := by rw [hM]; exact HR4.out
          have hMT : Mw (ftD B nv pv) (ftD B nv pv) w w4 := HM4.out
          have hr8 : M.R.length = 8 := hRT.b.r8
          obtain ⟨r0, hR0⟩ : ∃ r0, M.R[0]! = r0 := ⟨_, rfl⟩
          rw [← hM] at HD
          generalize w4 = WT at *
          have HRT := hide hRT
          have HMT := hide hMT
          have v2 : WT.cell? ⟨B, 2, none⟩ = some (.int .i64 (m.pl : Int)) := hRT.b.cell (Dc.g_pl hRT.b.r8 _ _ _ fuel)
          have vz := hRT.b.z
          have vlt := hRT.b.lt
          clear hRT hMT hM HR4 HM4 y0 y1 cRA
          go_wp2_with fail
          have hRV : Rm (WT.setCell ⟨B, 2, none⟩ (.int .i64 ((m.pl : Int) + 1))) B ⟨M.pl, M.dn, M.R, M.ch, M.pc, false, 0, 0⟩ (M.S.take M.sn) (M.P.take M.pn) (.slice (some ⟨cb, off, none⟩) xs.length ccap) nv pv xs fuel := by rw [hMpl]; exact HRT.out.set (Dc.s_pl (by exact hr8) _ _ _ fuel (m.pl + 1)) (by exact hr8)
          have hMV := HMT.out.trans (mw_set WT 2 (.int .i64 ((m.pl : Int) + 1)))
          have s0' : (WT.setCell ⟨B, 2, none⟩ (.int .i64 ((m.pl : Int) + 1))).cell? ⟨w.heap.size, 0, none⟩ = some (.int .i64 22) := (grown_set WT B 2 _).cell s0 (by simp; omega)
          have hwl' : w.heap.size < (WT.setCell ⟨B, 2, none⟩ (.int .i64 ((m.pl : Int) + 1))).heap.size := by simpa using hwl
          have t2 : (WT.setCell ⟨B, 2, none⟩ (.int .i64 ((m.pl : Int) + 1))).cell? ⟨B, 2, none⟩ = some (.int .i64 (M.pl : Int)) := hRV.b.cell (Dc.g_pl hRV.b.r8 _ _ _ fuel)
          generalize WT.setCell ⟨B, 2, none⟩ (.int .i64 ((m.pl : Int) + 1)) = WV at *
          have HRV := hide hRV
          have HMV := hide hMV
          clear hRV hMV HRT HMT s0 hwl v2 vz vlt
          have t0 : WV.cell? ⟨B, 0, none⟩ = some (.int .i64 (fuel : Int)) := HRV.out.b.cell (Dc.g_fuel HRV.out.b.r8 _ _ _ fuel)
          have t1 : WV.cell? ⟨B, 1, none⟩ = some (.slice (some ⟨cb, off, none⟩) xs.length ccap) := HRV.out.b.cell (Dc.g_v HRV.out.b.r8 _ _ _ fuel)
          have t3 : WV.cell? ⟨B, 3, none⟩ = some (.int .i64 (M.dn : Int)) := HRV.out.b.cell (Dc.g_dn HRV.out.b.r8 _ _ _ fuel)
          have t16 : WV.cell? ⟨B, 16, none⟩ = some (.bool false) := HRV.out.b.cell (Dc.g_ov HRV.out.b.r8 _ _ _ fuel)
          have t17 : WV.cell? ⟨B, 17, none⟩ = some (.int .i64 0) := HRV.out.b.cell (Dc.g_rc HRV.out.b.r8 _ _ _ fuel)
          have t18 : WV.cell? ⟨B, 18, none⟩ = some (.int .u64 0) := HRV.out.b.cell (Dc.g_rb HRV.out.b.r8 _ _ _ fuel)
          have tR : WV.cell? ⟨B, 4, none⟩ = some (.int .u64 (r0 : Int)) := by rw [← hR0]; exact HRV.out.b.cell (Dc.gR HRV.out.b.r8 _ _ _ fuel 0 (by decide))
          have tz := HRV.out.b.z
          have tlt := HRV.out.b.lt
          by_cases e1 : M.pl = xs.length
          · have e1i : ((M.pl : Int) == (xs.length : Int)) = true := by rw [beq_iff_eq]; omega
            go_quiet (fail)
            go_wp2_with fail
            go_ret3
            exact fin_end HX.out HD.out HMo.out HMe.out e1 (by rw [hR0]; exact (((HRV.out.below (bd_drew WV nq)).set (Dc.s_ov (by exact hr8) _ _ _ fuel true) (by exact hr8)).set (Dc.s_rc (by exact hr8) _ _ _ fuel 0) (by exact hr8)).set (Dc.s_rb (by exact hr8) _ _ _ fuel r0) (by exact hr8)) ((((HMV.out.trans (mw_below (bd_drew WV nq))).trans (mw_set _ 16 _)).trans (mw_set _ 17 _)).trans (mw_set _ 18 _))
          · have e1i : ((M.pl : Int) == (xs.length : Int)) = false := by rw [beq_eq_false_iff_ne]; omega
            by_cases e2 : M.dn = fuel
            · have e2i : ((M.dn : Int) == (fuel : Int)) = true := by rw [beq_iff_eq]; omega
              go_quiet (fail)
              go_wp2_with fail
              go_quiet (fail)
              go_wp2_with fail
              go_ret3
              exact fin_fuel HX.out HD.out HMo.out e1 e2 ((((HRV.out.below (bd_drew WV _)).set (Dc.s_ov (by exact hr8) _ _ _ fuel true) (by exact hr8)).set (Dc.s_rc (by exact hr8) _ _ _ fuel 1) (by exact hr8)).set (Dc.s_rb (by exact hr8) _ _ _ fuel 0) (by exact hr8)) ((((HMV.out.trans (mw_below (bd_drew WV _))).trans (mw_set _ 16 _)).trans (mw_set _ 17 _)).trans (mw_set _ 18 _))
            · have e2i : ((M.dn : Int) == (fuel : Int)) = false := by rw [beq_eq_false_iff_ne]; omega
              go_quiet (fail)
              go_wp2_with fail
              go_quiet (fail)
              go_wp2_with fail
              go_ret3
              exact fin_on HX.out HD.out HMo.out HMe.out e1 e2 (HRV.out.below (bd_drew2 WV _ _)) (HMV.out.trans (mw_below (bd_drew2 WV _ _)))
      have hbo1 : (op == 1) = false := beq_eq_false_iff_ne.mpr h1
      have hbo21 : (op == 21) = false := beq_eq_false_iff_ne.mpr h21
      have hbo22 : (op == 22) = false := beq_eq_false_iff_ne.mpr h22
      have h13' : ¬ op ≤ 13 := h13
      have hRB : Rm (WA.setCell ⟨B, 3, none⟩ (.int .i64 ((m.dn : Int) + 1))) B ⟨m.pl, m.dn + 1, m.R, m.ch, m.pc, false, 0, 0⟩ (m.S.take m.sn) (m.P.take m.pn) (.slice (some ⟨cb, off, none⟩) xs.length ccap) nv pv xs fuel := by
        have := HRA.out
        rw [dc_live ho hl3] at this
        exact this.set (Dc.s_dn this.b.r8 _ nv pv fuel (m.dn + 1)) this.b.r8
      have hMB : Mw (ftD B nv pv) (ftD B nv pv) w (WA.setCell ⟨B, 3, none⟩ (.int .i64 ((m.dn : Int) + 1))) := HMA.out.trans (mw_set WA 3 (.int .i64 ((m.dn : Int) + 1)))
      have hXBB : (WA.setCell ⟨B, 3, none⟩ (.int .i64 ((m.dn : Int) + 1))).heap[w.heap.size]? = some (.cells #[.int .i64 op, .int .i64 (a : Int), .int .i64 (b : Int), .int .i64 (c : Int), .int .i64 n, .int .u64 (k : Int)] 66) := ((grown_set WA B 3 (.int .i64 ((m.dn : Int) + 1))).block _ hxl (by simp; omega)).trans HXB.out
      have hsl : (m.S.take m.sn).length ≤ 8 := by rw [List.length_take]; have := hk.sn; omega
      have hpl8 : (m.P.take m.pn).length ≤ 8 := by rw [List.length_take]; have := hk.pn; omega
      have HF := hide (flows_any (x := ⟨op, (a : Int), (b : Int), (c : Int), n, k⟩) hRB (by show m.pl < 1000000; omega) hG hsl hpl8 (by show m.R[(a : Int).toNat]! < _; exact (get_wd hk.wR _).1) (by show 13 < op; omega) h21 h22)
      have hfd := flw_do (m := { m with dn := m.dn + 1 }) (many := xs.length) (fuel := fuel) ⟨op, (a : Int), (b : Int), (c : Int), n, k⟩ { hk.toFit with dn := hl2 } (by show 13 < op; omega) h21 h22 ⟨m.pl, m.dn + 1, m.R, m.ch, m.pc, false, 0, 0⟩ rfl rfl
      have hflw : Im.flw ⟨m.pl, m.dn + 1, m.R, m.ch, m.pc, false, 0, 0⟩ (m.S.take m.sn) (m.P.take m.pn) ⟨op, (a : Int), (b : Int), (c : Int), n, k⟩ xs.length = ((Im.doM (Im.ready m) ⟨op, (a : Int), (b : Int), (c : Int), n, k⟩ xs.length).1, ⟨(Im.doM (Im.ready m) ⟨op, (a : Int), (b : Int), (c : Int), n, k⟩ xs.length).2.1.pl, m.dn + 1, (Im.doM (Im.ready m) ⟨op, (a : Int), (b : Int), (c : Int), n, k⟩ xs.length).2.1.R, m.ch, m.pc, false, 0, 0⟩, (Im.doM (Im.ready m) ⟨op, (a : Int), (b : Int), (c : Int), n, k⟩ xs.length).2.1.S.take (Im.doM (Im.ready m) ⟨op, (a : Int), (b : Int), (c : Int), n, k⟩ xs.length).2.1.sn, (Im.doM (Im.ready m) ⟨op, (a : Int), (b : Int), (c : Int), n, k⟩ xs.length).2.1.P.take (Im.doM (Im.ready m) ⟨op, (a : Int), (b : Int), (c : Int), n, k⟩ xs.length).2.1.pn) := Prod.ext hfd.1 (Prod.ext hfd.2.1 (Prod.ext hfd.2.2.1 hfd.2.2.2.1))
      have hk0 : (Im.doM (Im.ready m) ⟨op, (a : Int), (b : Int), (c : Int), n, k⟩ xs.length).2.2.1 = 0 := hfd.2.2.2.2.1
      have htx : (Im.doM (Im.ready m) ⟨op, (a : Int), (b : Int), (c : Int), n, k⟩ xs.length).2.2.2 = ByteArray.empty := hfd.2.2.2.2.2
      rw [hflw] at HF
      have hkp := doM_keeps (Im.ready m) ⟨op, (a : Int), (b : Int), (c : Int), n, k⟩ xs.length
      have hsame := doM_same (Im.ready m) ⟨op, (a : Int), (b : Int), (c : Int), n, k⟩ xs.length
      have hon := doM_on (Im.ready m) ⟨op, (a : Int), (b : Int), (c : Int), n, k⟩ xs.length
      have htold := doM_told (Im.ready m) ⟨op, (a : Int), (b : Int), (c : Int), n, k⟩ xs.length
      have h24d : op = 24 → Im.doM (Im.ready m) ⟨op, (a : Int), (b : Int), (c : Int), n, k⟩ xs.length = (0, { Im.ready m with ov := true }, 0, ByteArray.empty) := fun e => by subst e; rfl
      have hxn : ¬ ftD B nv pv w.heap.size := by
        rintro (h | h | h)
        · omega
        · have := (HR.out.n.lt _ h).2; omega
        · have := (HR.out.p.lt _ h).2; omega
      obtain ⟨D, hDD⟩ : ∃ D, Im.doM (Im.ready m) ⟨op, (a : Int), (b : Int), (c : Int), n, k⟩ xs.length = D := ⟨_, rfl⟩
      rw [hDD] at HF hk0 htx hkp hsame hon htold h24d
      obtain ⟨t, M, kd, tx⟩ := D
      simp only at HF hk0 htx hkp hsame hon htold
      subst hk0 htx
      have HXN := hide hxn
      have HMB := hide hMB
      have HXBB := hide hXBB
      have hop24 := hG.op2
      simp only at hop24
      have HDD := hide hDD
      have HSA := hide hsame
      have HON := hide hon
      have HTO := hide htold
      have H24 := hide h24d
      have HKP := hide hkp
      have hbl := hRB.b.lt
      clear hRB hMB hXBB hxn hfd hflw hDD hsame hon htold h24d hkp
      go_wp2_with fail
      refine HF.out.mono ?_
      rintro e w4 ⟨nv', pv', rfl, hr4, hm4⟩
      have hxbl := lt_of_block HXBB.out
      have hx4 := (hm4.block _ hxbl HXN.out).trans HXBB.out
      have s0' := (six_of hx4).1.1
      have hwl' := lt_of_block hx4
      have HR4 := hide hr4
      have HM4 := hide (HMB.out.trans hm4)
      have r8' : M.R.length = 8 := hr4.b.r8
      clear hm4 hx4 x0 x1 x2 x3 x4 x5 c0 c1 c2 c3 c14 c15 c17 c18 c16A zA hltA hxl HXB HRA HMA HF
      by_cases ht : t = 0
      · subst ht
        have hch : M.ch = m.ch ∧ M.pc = m.pc := by
          rcases HTO.out rfl with h | h | h
          · exact h.2
          · exact absurd h.1 (by decide)
          · exact absurd h.1 (by decide)
        have hdn : M.dn = m.dn + 1 := HKP.out.1
        have HMe : Hid (M.en = 0) := HKP.out.2.1.trans hl3
        obtain ⟨r0, hR0⟩ : ∃ r0, M.R[0]! = r0 := ⟨_, rfl⟩
        have hr8 := r8'
        have hRV : Rm w4 B ⟨M.pl, M.dn, M.R, M.ch, M.pc, false, 0, 0⟩ (M.S.take M.sn) (M.P.take M.pn) (.slice (some ⟨cb, off, none⟩) xs.length ccap) nv' pv' xs fuel := by rw [hch.1, hch.2, hdn]; exact hr4
        have HRV := hide hRV
        have HMV := HM4
        have HD := HDD
        have t2 : w4.cell? ⟨B, 2, none⟩ = some (.int .i64 (M.pl : Int)) := hRV.b.cell (Dc.g_pl hRV.b.r8 _ _ _ fuel)
        clear hr4 hRV HR4 HM4
        rename World => WV
        have t0 : WV.cell? ⟨B, 0, none⟩ = some (.int .i64 (fuel : Int)) := HRV.out.b.cell (Dc.g_fuel HRV.out.b.r8 _ _ _ fuel)
        have t1 : WV.cell? ⟨B, 1, none⟩ = some (.slice (some ⟨cb, off, none⟩) xs.length ccap) := HRV.out.b.cell (Dc.g_v HRV.out.b.r8 _ _ _ fuel)
        have t3 : WV.cell? ⟨B, 3, none⟩ = some (.int .i64 (M.dn : Int)) := HRV.out.b.cell (Dc.g_dn HRV.out.b.r8 _ _ _ fuel)
        have t16 : WV.cell? ⟨B, 16, none⟩ = some (.bool false) := HRV.out.b.cell (Dc.g_ov HRV.out.b.r8 _ _ _ fuel)
        have t17 : WV.cell? ⟨B, 17, none⟩ = some (.int .i64 0) := HRV.out.b.cell (Dc.g_rc HRV.out.b.r8 _ _ _ fuel)
        have t18 : WV.cell? ⟨B, 18, none⟩ = some (.int .u64 0) := HRV.out.b.cell (Dc.g_rb HRV.out.b.r8 _ _ _ fuel)
        have tR : WV.cell? ⟨B, 4, none⟩ = some (.int .u64 (r0 : Int)) := by rw [← hR0]; exact HRV.out.b.cell (Dc.gR HRV.out.b.r8 _ _ _ fuel 0 (by decide))
        have tz := HRV.out.b.z
        have tlt := HRV.out.b.lt
        by_cases h24 : op = 24
        · have HMo : Hid (M.ov = true) := congrArg (fun d : Nat × Mc × Nat × ByteArray => d.2.1.ov) (H24.out h24)
          subst h24
          go_wp2_with fail
          go_quiet (fail)
          go_wp2_with fail
          go_ret3
          exact fin_halt HX.out HD.out HMo.out HMe.out (by rw [hR0]; exact (((HRV.out.below (bd_drew WV nq)).set (Dc.s_ov (by exact hr8) _ _ _ fuel true) (by exact hr8)).set (Dc.s_rc (by exact hr8) _ _ _ fuel 0) (by exact hr8)).set (Dc.s_rb (by exact hr8) _ _ _ fuel r0) (by exact hr8)) ((((HMV.out.trans (mw_below (bd_drew WV nq))).trans (mw_set _ 16 _)).trans (mw_set _ 17 _)).trans (mw_set _ 18 _))
        · have hb24 : (op == 24) = false := beq_eq_false_iff_ne.mpr h24
          have HMo : Hid (M.ov = false) := (HON.out h24 hop24).trans ho
          go_wp2_with fail
          by_cases e1 : M.pl = xs.length
          · have e1i : ((M.pl : Int) == (xs.length : Int)) = true := by rw [beq_iff_eq]; omega
            go_quiet (fail)
            go_wp2_with fail
            go_ret3
            exact fin_end HX.out HD.out HMo.out HMe.out e1 (by rw [hR0]; exact (((HRV.out.below (bd_drew WV nq)).set (Dc.s_ov (by exact hr8) _ _ _ fuel true) (by exact hr8)).set (Dc.s_rc (by exact hr8) _ _ _ fuel 0) (by exact hr8)).set (Dc.s_rb (by exact hr8) _ _ _ fuel r0) (by exact hr8)) ((((HMV.out.trans (mw_below (bd_drew WV nq))).trans (mw_set _ 16 _)).trans (mw_set _ 17 _)).trans (mw_set _ 18 _))
          · have e1i : ((M.pl : Int) == (xs.length : Int)) = false := by rw [beq_eq_false_iff_ne]; omega
            by_cases e2 : M.dn = fuel
            · have e2i : ((M.dn : Int) == (fuel : Int)) = true := by rw [beq_iff_eq]; omega
              go_quiet (fail)
              go_wp2_with fail
              go_quiet (fail)
              go_wp2_with fail
              go_ret3
              exact fin_fuel HX.out HD.out HMo.out e1 e2 ((((HRV.out.below (bd_drew WV _)).set (Dc.s_ov (by exact hr8) _ _ _ fuel true) (by exact hr8)).set (Dc.s_rc (by exact hr8) _ _ _ fuel 1) (by exact hr8)).set (Dc.s_rb (by exact hr8) _ _ _ fuel 0) (by exact hr8)) ((((HMV.out.trans (mw_below (bd_drew WV _))).trans (mw_set _ 16 _)).trans (mw_set _ 17 _)).trans (mw_set _ 18 _))
            · have e2i : ((M.dn : Int) == (fuel : Int)) = false := by rw [beq_eq_false_iff_ne]; omega
              go_quiet (fail)
              go_wp2_with fail
              go_quiet (fail)
              go_wp2_with fail
              go_ret3
              exact fin_on HX.out HD.out HMo.out HMe.out e1 e2 (HRV.out.below (bd_drew2 WV _ _)) (HMV.out.trans (mw_below (bd_drew2 WV _ _)))
      · have hM : M = Im.ready m := congrArg Prod.fst (HSA.out ht)
        have htb : ((t : Int) != 0) = true := by rw [bne_iff_ne]; omega
        have HDt : Hid ((Im.doM (Im.ready m) ⟨op, (a : Int), (b : Int), (c : Int), n, k⟩ xs.length).1 = t) := congrArg Prod.fst HDD.out
        have hRT : Rm w4 B ⟨m.pl + 1, m.dn + 1, m.R, m.ch, m.pc, false, 0, 0⟩ (m.S.take m.sn) (m.P.take m.pn) (.slice (some ⟨cb, off, none⟩) xs.length ccap) nv' pv' xs fuel := by rw [hM] at hr4; exact hr4
        have hr8 : m.R.length = 8 := hRT.b.r8
        have HRT := hide hRT
        have v2 := hRT.b.cell (Dc.g_pl hRT.b.r8 _ _ _ fuel)
        have v16 : w4.cell? ⟨B, 16, none⟩ = some (.bool false) := hRT.b.cell (Dc.g_ov hRT.b.r8 _ _ _ fuel)
        have v17 : w4.cell? ⟨B, 17, none⟩ = some (.int .i64 0) := hRT.b.cell (Dc.g_rc hRT.b.r8 _ _ _ fuel)
        have v18 : w4.cell? ⟨B, 18, none⟩ = some (.int .u64 0) := hRT.b.cell (Dc.g_rb hRT.b.r8 _ _ _ fuel)
        have vz := hRT.b.z
        have vlt := hRT.b.lt
        clear hRT hr4 HR4
        go_wp2_with fail
        go_ret3
        exact fin_trap (t := t) HX.out HDt.out ht ((((HRT.out.set (Dc.s_pl (by exact hr8) _ _ _ fuel m.pl) (by exact hr8)).set (Dc.s_ov (by exact hr8) _ _ _ fuel true) (by exact hr8)).set (Dc.s_rc (by exact hr8) _ _ _ fuel t) (by exact hr8)).set (Dc.s_rb (by exact hr8) _ _ _ fuel 0) (by exact hr8)) ((((HM4.out.trans (mw_set _ 2 _)).trans (mw_set _ 16 _)).trans (mw_set _ 17 _)).trans (mw_set _ 18 _))
end Go.Proofs.YthjngodkpldpfaaGreatDoor
end
