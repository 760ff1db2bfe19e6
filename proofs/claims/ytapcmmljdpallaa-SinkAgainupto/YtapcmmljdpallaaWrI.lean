import Derived.Test.YtapcmmljdpallaaWrQ
import Derived.Lib.OthersKept
namespace Go.Proofs.Ytapcmmljdpallaa
set_option maxRecDepth 20000
open Go.RowKit Go.Shelf
open Wr (Ms V L)

/-- the fields' row, as it is read -/
structure Row (A base : Nat) (k : Int) (ls : List L) (G : Nat) (xs : List Value) (w : World) : Prop where
  cell : ∀ i j, i < ls.length → j < 4 → w.cell? ⟨G, i * 4 + j, none⟩ = some (xs.getD (4 * i + j) undef)
  fd : ∀ i (h : i < ls.length), ∃ bs, Fd A base k ls[i] bs w (xs.getD (4 * i) undef) (xs.getD (4 * i + 1) undef) (xs.getD (4 * i + 2) undef) (xs.getD (4 * i + 3) undef)
  lo : base ≤ G
  obj : ∃ cs, w.heap[G]? = some (.cells cs 81 (0, 0))
theorem Row.hi {A base : Nat} {k : Int} {ls : List L} {G : Nat} {xs : List Value} {w : World} (h : Row A base k ls G xs w) : G < w.heap.size := by
  obtain ⟨cs, hc⟩ := h.obj
  exact lt_of_block hc
theorem Row.keep {A base : Nat} {k : Int} {ls : List L} {G : Nat} {xs : List Value} {w w' : World} (h : Row A base k ls G xs w) (hk : ∀ j, base ≤ j → j < w.heap.size → w'.heap[j]? = w.heap[j]?) : Row A base k ls G xs w' := by
  refine ⟨fun i j hi hj => ?_, fun i hi => ?_, h.lo, h.obj.imp fun cs hc => (hk G h.lo h.hi).trans hc⟩
  · rw [World.cell?_of_block (hk G h.lo h.hi)]; exact h.cell i j hi hj
  · obtain ⟨bs, hF⟩ := h.fd i hi
    exact ⟨bs, hF.keep fun j hj => hk j (hF.high j hj).1 (hF.high j hj).2⟩
theorem Row.below {A base : Nat} {k : Int} {ls : List L} {G : Nat} {xs : List Value} {w w' : World} (h : Row A base k ls G xs w) (hb : Below w.heap.size w w') : Row A base k ls G xs w' := h.keep fun j _ hj => hb.block j hj
theorem Row.ch {A B base : Nat} {k : Int} {ls : List L} {G : Nat} {xs : List Value} {w w' : World} (h : Row A base k ls G xs w) (hc : Ch A B w w') (hA : A < base) (hB : B < base) : Row A base k ls G xs w' := h.keep fun j hb hj => hc.block j hj (by omega) (by omega)
theorem FsInv.row {w : World} {A I G : Nat} {m : Ms} {ls : List L} {cap : Nat} {xs : List Value} {w' : World} (h : FsInv w A I G m ls ls.length cap xs w') : Row A w.heap.size m.k ls G xs w' := by
  have hG := own_lt h.own
  refine ⟨fun i j hi hj => ?_, fun i hi => ?_, hG.1, ?_⟩
  · have hx : xs.length = ls.length * 4 := h.own.1
    have := h.own.cells (g := G) rfl (4 * i + j) (xs.getD (4 * i + j) undef) (by rw [List.getD_eq_getElem?_getD, List.getElem?_eq_getElem (by omega)]; rfl)
    rw [Addr.add_lit] at this
    rw [show i * 4 + j = 4 * i + j by omega]
    simpa using this
  · obtain ⟨bs, hF, _⟩ := h.fd i hi hi
    exact ⟨bs, hF⟩
  · obtain ⟨_, h2⟩ := h.own
    rcases h2 with ⟨h2, _⟩ | ⟨g, cap, cur, hv, hg, hb, r⟩
    · cases h2
    · cases hv; exact ⟨cur, hb⟩
theorem Row.kept {A base : Nat} {k : Int} {ls : List L} {G b : Nat} {xs : List Value} {w w' : World} (h : Row A base k ls G xs w) (hk : Lib.OthersKept 5 (some b) w w') (hb : b < base) : Row A base k ls G xs w' := by
  obtain ⟨cs, hc⟩ := h.obj
  have hG : w'.heap[G]? = some (.cells cs 81 (0, 0)) := hk G _ hc (by have := h.lo; simp; omega) (by intro c fz e; simp at e)
  refine ⟨fun i j hi hj => ?_, fun i hi => ?_, h.lo, ⟨cs, hG⟩⟩
  · rw [World.cell?_of_block (hG.trans hc.symm)]; exact h.cell i j hi hj
  · obtain ⟨bs, P, i1, i2, i3, i4, c1, c2, c3, c4, x0, x1, x2, x3, hP, hC⟩ := h.fd i hi
    refine ⟨bs, P, i1, i2, i3, i4, c1, c2, c3, c4, x0, x1, x2, x3, hC.keep _ _ hP fun j hj => ?_, hC⟩
    have hlt := hC.high _ hP j hj
    have ho : w.heap[j]? = some w.heap[j] := Array.getElem?_eq_getElem hlt
    exact (hk j _ ho (by have := hC.low j hj; simp; omega) (hC.typ _ hP j hj _ ho)).trans ho.symm
structure CkI (w : World) (A base : Nat) (ls : List L) (G : Nat) (xs : List Value) (i : Nat) (m mi : Ms) (w' : World) : Prop where
  mg : Mg w' A mi
  k : mi.k = m.k
  rb : mi.rb < 18446744073709551616
  row : Row A base m.k ls G xs w'
  bl : Below w.heap.size w w'
  ck : Wr.chk ls m = Wr.chk (ls.drop i) mi
theorem CkI.up {w : World} {A base : Nat} {ls : List L} {G : Nat} {xs : List Value} {i : Nat} {m mi : Ms} {wr w3 : World} (h : CkI w A base ls G xs i m mi wr) (hb : Below wr.heap.size wr w3) : CkI w A base ls G xs i m mi w3 :=
  ⟨h.mg.block (hb.block A h.mg.lt), h.k, h.rb, h.row.below hb, h.bl.trans (hb.mono h.bl.size), h.ck⟩
theorem Ch.bel {A B k : Nat} {w w3 w4 : World} (h : Below k w w3) (hc : Ch A B w3 w4) (hs : w.heap.size ≤ A) (hB : w.heap.size ≤ B) (hk : k ≤ w.heap.size) : Below k w w4 :=
  ⟨hc.os.trans h.os, hc.tape.trans h.tape, hc.output.trans h.output, Nat.le_trans h.size hc.size, fun j hj => (hc.block j (by have := h.size; omega) (by omega) (by omega)).trans (h.block j hj)⟩
theorem chk_drop {ls : List L} {i : Nat} (hi : i < ls.length) (mi : Ms) : Wr.chk (ls.drop i) mi = (Wr.may mi.k ls[i] (Wr.get ls[i] mi) && Wr.chk (ls.drop (i + 1)) (Wr.set ls[i] Wr.zV mi)) := by
  rw [List.drop_eq_getElem_cons hi]; rfl
theorem set_rb (l : L) (m : Ms) (h : m.rb < 18446744073709551616) : (Wr.set l Wr.zV m).rb < 18446744073709551616 := by
  cases l
  case R => exact (by decide : (0 : Nat) < 18446744073709551616)
  all_goals exact h
theorem alloc_at (wr : World) (o : Obj) : Below wr.heap.size wr (wr.alloc o) := below_alloc wr o
theorem cells4 (wr : World) (v0 v1 v2 v3 : Value) (t : TypeId) {w3 : World} (hb : Below (wr.alloc (.cells #[v0, v1, v2, v3] t)).heap.size (wr.alloc (.cells #[v0, v1, v2, v3] t)) w3) :
    w3.cell? ⟨wr.heap.size, 0, none⟩ = some v0 ∧ w3.cell? ⟨wr.heap.size, 1, none⟩ = some v1 ∧ w3.cell? ⟨wr.heap.size, 2, none⟩ = some v2 ∧ w3.cell? ⟨wr.heap.size, 3, none⟩ = some v3 := by
  have h := (hb.block wr.heap.size (by simp)).trans (heap_alloc_new wr _)
  refine ⟨?_, ?_, ?_, ?_⟩ <;> simp [World.cell?, h]
theorem tx_empty (t : ByteArray) : t.toList.isEmpty = decide (t.size = 0) := by
  rw [ByteArray.toList_eq, Wr.size_list]; cases t.data.toList <;> rfl
theorem Mg.all {w : World} {A : Nat} {m : Ms} (h : Mg w A m) : ∀ j v, (msgC m)[j]? = some v → w.cell? ⟨A, j, none⟩ = some v := by
  intro j v hv; unfold Mg at h; simp [World.cell?, h, hv]
set_option maxRecDepth 8000 in
set_option maxHeartbeats 2000000 in
theorem check_any (m : Ms) (hrb : m.rb < 18446744073709551616) (w : World) : Calls Try.prog 27 #[.agg (msgC m)] w fun e w' => e = .returned (.int .i64 (Wr.check m : Int)) ∧ Below w.heap.size w w' := by
  unfold Wr.check
  by_cases hk : m.k < 1 ∨ 16 < m.k
  · rw [if_pos hk]
    unfold msgC
    rcases hk with hk | hk
    · have b1 : decide (m.k < 1) = true := decide_eq_true hk
      go_enter Try.func27, Try.ntmps27
      go_wp2
      go_ret
      exact ⟨rfl, below_alloc _ _⟩
    · have b1 : decide (m.k < 1) = false := decide_eq_false (by omega)
      have b2 : decide (m.k > 16) = true := decide_eq_true hk
      go_enter Try.func27, Try.ntmps27
      go_wp2
      go_ret
      exact ⟨rfl, below_alloc _ _⟩
  · rw [if_neg hk]
    have b1 : decide (m.k < 1) = false := decide_eq_false (by omega)
    have b2 : decide (m.k > 16) = false := decide_eq_false (by omega)
    by_cases h6 : m.k = 6 ∧ m.ix = 0 ∧ m.tx.size ≠ 0
    · rw [if_pos h6]
      obtain ⟨k6, i0, t0⟩ := h6
      unfold msgC
      rw [k6, i0]
      have b3 : m.tx.toList.isEmpty = false := by rw [tx_empty]; exact decide_eq_false t0
      go_enter Try.func27, Try.ntmps27
      go_wp2
      go_ret
      exact ⟨rfl, below_alloc _ _⟩
    · rw [if_neg h6]
      have hcase : ((m.k == 6) = false) ∨ ((m.k == 6) = true ∧ (m.ix == 0) = false) ∨ ((m.k == 6) = true ∧ (m.ix == 0) = true ∧ m.tx.toList.isEmpty = true) := by
        by_cases k6 : m.k = 6
        · by_cases i0 : m.ix = 0
          · refine .inr (.inr ⟨beq_iff_eq.mpr k6, beq_iff_eq.mpr i0, ?_⟩); rw [tx_empty]; apply decide_eq_true; apply Decidable.byContradiction; intro ht; exact h6 ⟨k6, i0, ht⟩
          · exact .inr (.inl ⟨beq_iff_eq.mpr k6, beq_false_of_ne i0⟩)
        · exact .inl (beq_false_of_ne k6)
      have HM : Hid (Mg (w.alloc (.cells (msgC m) 61)) w.heap.size m) := heap_alloc_new w _
      have HFs := hide (fieldsOf_any HM.out (by omega) (by omega))
      generalize hls : Wr.letters m.k = ls at *
      have hlen : ls.length ≤ 5 := by subst hls; exact letters_five _
      have hal : ∀ (W : World) ob, (W.alloc ob).heap.size = W.heap.size + 1 := fun W ob => by simp
      clear h6
      have HRB := hide hrb
      generalize hE : (if Wr.chk ls m = true then (0 : Nat) else 71) = E at *
      have HE := hide hE
      clear hE
      unfold msgC at HFs ⊢
      rcases hcase with b3 | ⟨b3, b4⟩ | ⟨b3, b4, b5⟩
      all_goals
        go_enter Try.func27, Try.ntmps27
        go_wp2_with fail
        refine HFs.out.mono ?_
        rintro e w2 ⟨G, cap, xs, I, rfl, hF⟩
        have hst : CkI w w.heap.size (w.heap.size + 1) ls G xs 0 m m w2 := by
          have hr := hF.row
          rw [hal] at hr
          have hb := hF.bl
          rw [hal] at hb
          exact ⟨hF.mg, rfl, hrb, hr, (below_alloc w _).trans (hb.mono (by omega)), by rw [List.drop_zero]⟩
        have HST := hide hst
        clear hF hst
        go_wp2
        go_loopw [28] (fun u wr => ∃ (i : Nat) (mi : Ms), u = .int .i64 (i : Int) ∧ i ≤ ls.length ∧ Hid (CkI w w.heap.size (w.heap.size + 1) ls G xs i m mi wr)) (fun u _ => ls.length - (intOf u).toNat)
        case atStart => exact ⟨0, m, rfl, Nat.zero_le _, HST.out⟩
        case round =>
          obtain ⟨i, mi, rfl, hi, HI⟩ := hrel
          by_cases hil : i < ls.length
          · have d0 : decide ((i : Int) < (ls.length : Int)) = true := by simp; omega
            obtain ⟨bs, P, i1, i2, i3, i4, c1, c2, c3, c4, x0, x1, x2, x3, hP, hC⟩ := HI.out.row.fd i hil
            have q0 := HI.out.row.cell i 0 hil (by decide)
            have q1 := HI.out.row.cell i 1 hil (by decide)
            have q2 := HI.out.row.cell i 2 hil (by decide)
            have q3 := HI.out.row.cell i 3 hil (by decide)
            rw [Nat.add_zero, Nat.add_zero, x0] at q0
            rw [x1] at q1
            rw [x2] at q2
            rw [x3] at q3
            have e1 := hC.e1
            have e2 := hC.e2
            have HC := hide hC
            clear x0 x1 x2 x3 hC
            have hba := below_alloc wr (.cells #[.func (.func i1) #[] c1, .func (.func i2) #[] c2, .func (.func i3) #[] c3, .func (.func i4) #[] c4] 81)
            have HIa := hide (HI.out.up hba)
            have HPa := hide (HC.out.keep _ _ hP (fun j hj => hba.block j (HC.out.high _ hP j hj)))
            clear hP hba
            go_wp2_with fail
            refine (HC.out.may _ mi HPa.out HIa.out.mg HIa.out.k HIa.out.rb).mono ?_
            rintro e w3 ⟨rfl, hb3⟩
            have hf := (cells4 _ _ _ _ _ _ hb3).2.1
            have HI3 := hide (HIa.out.up hb3)
            have HP3 := hide (HC.out.keep _ _ HPa.out (fun j hj => hb3.block j (HC.out.high _ HPa.out j hj)))
            have HCK := hide (HI.out.ck.trans (chk_drop hil mi))
            clear hb3
            cases hy : Wr.may m.k ls[i] (Wr.get ls[i] mi)
            · have hfin : Wr.chk ls m = false := by rw [HCK.out, HI.out.k, hy, Bool.false_and]
              go_wp2
              go_ret
              exact ⟨by rw [← HE.out, hfin]; rfl, HI3.out.bl⟩
            · go_wp2_with fail
              refine (HC.out.clr _ mi HP3.out HI3.out.mg).mono ?_
              rintro e w4 ⟨rfl, hm4, hc4⟩
              have HN : Hid (CkI w w.heap.size (w.heap.size + 1) ls G xs (i + 1) m (Wr.set ls[i] Wr.zV mi) w4) :=
                ⟨hm4, by rw [Wr.k_set]; exact HI.out.k, set_rb _ _ HI.out.rb, HI3.out.row.ch hc4 (by omega) (by omega), Ch.bel HI3.out.bl hc4 (by omega) (by omega) (by omega), by rw [HCK.out, HI.out.k, hy, Bool.true_and]⟩
              clear hm4 hc4
              go_wp2
              exact ⟨⟨i + 1, _, by go_num, by omega, HN.out⟩, by simp [intOf]; omega⟩
          · have d0 : decide ((i : Int) < (ls.length : Int)) = false := by simp; omega
            obtain rfl : i = ls.length := by omega
            have hck := HI.out.ck
            rw [List.drop_length] at hck
            have HCK := hide hck
            have hkk := HI.out.k
            have HK := hide hkk
            have r0 : wr.cell? ⟨w.heap.size, 0, none⟩ = some (.int .i64 mi.k) := HI.out.mg.all 0 _ rfl
            have r1 : wr.cell? ⟨w.heap.size, 1, none⟩ = some (.int .i64 mi.se) := HI.out.mg.all 1 _ rfl
            have r2 : wr.cell? ⟨w.heap.size, 2, none⟩ = some (.int .i64 mi.nu) := HI.out.mg.all 2 _ rfl
            have r3 : wr.cell? ⟨w.heap.size, 3, none⟩ = some (.int .i64 mi.jo) := HI.out.mg.all 3 _ rfl
            have r4 : wr.cell? ⟨w.heap.size, 4, none⟩ = some (.int .i64 mi.ba) := HI.out.mg.all 4 _ rfl
            have r5 : wr.cell? ⟨w.heap.size, 5, none⟩ = some (.int .i64 mi.ix) := HI.out.mg.all 5 _ rfl
            have r6 : wr.cell? ⟨w.heap.size, 6, none⟩ = some (.int .i64 mi.co) := HI.out.mg.all 6 _ rfl
            have r7 : wr.cell? ⟨w.heap.size, 7, none⟩ = some (.int .i64 mi.rc) := HI.out.mg.all 7 _ rfl
            have r8 : wr.cell? ⟨w.heap.size, 8, none⟩ = some (.int .u64 (mi.rb : Int)) := HI.out.mg.all 8 _ rfl
            have r9 : wr.cell? ⟨w.heap.size, 9, none⟩ = some (.string mi.tx) := HI.out.mg.all 9 _ rfl
            have r10 : wr.cell? ⟨w.heap.size, 10, none⟩ = some (.string mi.pr) := HI.out.mg.all 10 _ rfl
            have hq : ∀ w, (binOp .neq 61 (.agg #[.int .i64 mi.k, .int .i64 mi.se, .int .i64 mi.nu, .int .i64 mi.jo, .int .i64 mi.ba, .int .i64 mi.ix, .int .i64 mi.co, .int .i64 mi.rc, .int .u64 (mi.rb : Int), .string mi.tx, .string mi.pr]) (.agg #[.int .i64 mi.k, .int .i64 0, .int .i64 0, .int .i64 0, .int .i64 0, .int .i64 0, .int .i64 0, .int .i64 0, .int .u64 0, .string ⟨#[]⟩, .string ⟨#[]⟩])).run Try.prog w = .ok (.bool (!decide (mi = Wr.zM mi.k))) w := neq_msg mi (Wr.zM mi.k)
            clear hck hkk
            cases hz : decide (mi = Wr.zM mi.k)
            · have hfin : Wr.chk ls m = false := by rw [HCK.out]; exact hz
              rw [hz] at hq
              go_wp2
              go_ret
              exact ⟨by rw [← HE.out, hfin]; rfl, HI.out.bl⟩
            · have hfin : Wr.chk ls m = true := by rw [HCK.out]; exact hz
              rw [hz] at hq
              go_wp2
              go_ret
              exact ⟨by rw [← HE.out, hfin]; rfl, HI.out.bl⟩
end Go.Proofs.Ytapcmmljdpallaa
