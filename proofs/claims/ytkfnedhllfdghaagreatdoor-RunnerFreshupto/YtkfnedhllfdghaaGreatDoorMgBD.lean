import Derived.Test.YtkfnedhllfdghaaGreatDoorMgBC
import Derived.Lib.AppendIntMem

section
namespace Go.Proofs.YtkfnedhllfdghaaGreatDoor.W
set_option maxRecDepth 20000
open Go.RowKit Go.Shelf
open Wr (Ms V L)

structure EnI (w1 : World) (A base G : Nat) (ls : List L) (xs : List Value) (m : Ms) (i : Nat) (acc : List UInt8) (wr : World) : Prop where
  bu : Lib.IsBuilderF 214 5 w1.heap.size w1.heap.size (Lib.byteCells acc) wr
  row : Row A base m.k ls G xs wr
  mg : Mg wr A m
  bl : Below w1.heap.size w1 wr
  by_ : Wr.bytes m = acc ++ Wr.body m (ls.drop i)
theorem EnI.up {w1 : World} {A base G : Nat} {ls : List L} {xs : List Value} {m : Ms} {i : Nat} {acc : List UInt8} {wr w3 : World} (h : EnI w1 A base G ls xs m i acc wr) (hb : Below wr.heap.size wr w3) : EnI w1 A base G ls xs m i acc w3 :=
  ⟨builder_below h.bu hb (Nat.le_refl _), h.row.below hb, h.mg.block (hb.block A h.mg.lt), h.bl.trans (hb.mono h.bl.size), h.by_⟩
theorem body_drop {ls : List L} {i : Nat} (hi : i < ls.length) (m : Ms) : Wr.body m (ls.drop i) = Wr.lay ls[i] (Wr.get ls[i] m) ++ Wr.body m (ls.drop (i + 1)) := by
  rw [List.drop_eq_getElem_cons hi, Wr.body, List.flatMap_cons]; rfl
theorem EnI.step {w1 : World} {A base G : Nat} {ls : List L} {xs : List Value} {m : Ms} {i : Nat} {acc : List UInt8} {w3 w4 : World} (h : EnI w1 A base G ls xs m i acc w3) (hi : i < ls.length) (hA : A < w1.heap.size) (hbase : w1.heap.size < base) (b4 : Below w1.heap.size w3 w4) (k4 : Lib.OthersKept 5 (some w1.heap.size) w3 w4)
    (bu : Lib.BuilderAtF 214 5 w1.heap.size w1.heap.size (.pointer (some ⟨w1.heap.size, 0, none⟩)) (Lib.byteCells acc ++ Lib.strCells ⟨(Wr.lay ls[i] (Wr.get ls[i] m)).toArray⟩) w4) : EnI w1 A base G ls xs m (i + 1) (acc ++ Wr.lay ls[i] (Wr.get ls[i] m)) w4 := by
  refine ⟨.inr ?_, h.row.kept k4 hbase, h.mg.block (b4.block A hA), h.bl.trans b4, ?_⟩
  · rw [Lib.byteCells_append, ← Lib.strCells_toArray (Wr.lay ls[i] (Wr.get ls[i] m))]; exact bu
  · rw [h.by_, body_drop hi, List.append_assoc]
def encB (m : Ms) : ByteArray := if Wr.check m = 0 then ⟨(Wr.bytes m).toArray⟩ else ⟨#[]⟩
set_option maxRecDepth 8000 in
set_option maxHeartbeats 2000000 in
theorem encode_any (m : Ms) (hrb : m.rb < 18446744073709551616) (w : World) : Calls Tryz.prog 90 #[.agg (msgC m)] w fun e w' => e = .returned (.tuple #[.string (encB m), .int .i64 (Wr.check m : Int)]) ∧ Below w.heap.size w w' := by
  have HC := hide (check_any m hrb)
  by_cases hc : Wr.check m = 0
  · have hB : encB m = ⟨(Wr.bytes m).toArray⟩ := if_pos hc
    have hlen := Wr.bytes_len hc
    obtain ⟨⟨k1, k2⟩, _, hmay, _⟩ := (Wr.check_iff m).mp hc
    have HMay := hide hmay
    have HRB := hide hrb
    clear hmay
    obtain ⟨kn, hkn⟩ : ∃ kn : Nat, m.k = (kn : Int) := ⟨m.k.toNat, by omega⟩
    have hk0 : kn < 17 := by omega
    rw [hB, hc]
    rw [hc] at HC
    rw [show ((0 : Nat) : Int) = 0 from rfl] at HC ⊢
    have HE : Hid (Wr.bytes m = Pk.enc kn ++ Wr.body m (Wr.letters m.k)) := by rw [show kn = m.k.toNat by omega]; rfl
    have HS0 : Hid (Lib.strCells ⟨(Pk.enc kn).toArray⟩ = Lib.byteCells (Pk.enc kn)) := Lib.strCells_toArray _
    have henc := Pk.enc_ten (n := kn) (by omega)
    have HEn := hide henc
    have HMsg : Hid (Mg (w.alloc (.cells (msgC m) 67)) w.heap.size m) := heap_alloc_new w _
    have HK := hide hkn
    generalize hls : Wr.letters m.k = ls at *
    have hl5 : ls.length ≤ 5 := by subst hls; exact letters_five _
    have HLS := hide hls
    clear hls hB
    generalize hR : (⟨(Wr.bytes m).toArray⟩ : ByteArray) = RES at *
    have HR := hide hR
    clear hR henc hkn
    unfold msgC at HC ⊢
    go_enter Tryz.func90, Tryz.ntmps90
    go_wp2_with fail
    refine (HC.out _).mono ?_
    rintro e w1 ⟨rfl, hb1⟩
    have hM1 : Mg w1 w.heap.size m := HMsg.out.block (hb1.block _ (by simp))
    have hbl : Below w.heap.size w w1 := (below_alloc w _).trans (hb1.mono (by simp))
    have hc0 : w1.cell? ⟨w.heap.size, 0, none⟩ = some (.int .i64 (kn : Int)) := by rw [← HK.out]; exact hM1.c0
    have hc0' : ∀ ob, (w1.alloc ob).cell? ⟨w.heap.size, 0, none⟩ = some (.int .i64 (kn : Int)) := fun ob => Lib.cell?_alloc_some _ hc0
    have hA1 := hM1.lt
    have HBu : Hid (Lib.IsBuilderF 214 5 w1.heap.size w1.heap.size [] (w1.alloc (.cells #[.pointer none, .slice none 0 0] 214))) := Lib.IsBuilderF.of (Lib.fresh_isBuilder _ _ w1)
    have HM1 := hide hM1
    have HBL := hide hbl
    clear hb1 hM1 hbl
    go_wp2_with fail
    refine (pnum_any kn (by omega) _).mono ?_
    rintro e w2 ⟨rfl, hb2⟩
    have HBu2 := hide (builder_below HBu.out hb2 (Nat.le_refl _))
    have hs2 := hb2.size
    have hb12 : Below w1.heap.size w1 w2 := (below_alloc w1 _).trans (hb2.mono (by simp))
    have HB12 := hide hb12
    have hb12s := hb12.size
    clear hb2 hb12 HBu hs2
    go_wp2_with fail
    refine (writeString_k w1.heap.size w1.heap.size [] ⟨(Pk.enc kn).toArray⟩ w2 HBu2.out (by have := HEn.out; show 0 + (Pk.enc kn).toArray.size ≤ _; simp; omega) hb12s).mono ?_
    rintro e w3 ⟨rfl, hbu3, hb3, _⟩
    have hbu3' : Lib.IsBuilderF 214 5 w1.heap.size w1.heap.size (Lib.byteCells (Pk.enc kn)) w3 := by rw [List.nil_append, HS0.out] at hbu3; exact .inr hbu3
    have HBu3 := hide hbu3'
    have hb13 : Below w1.heap.size w1 w3 := HB12.out.trans hb3
    have HB13 := hide hb13
    have hM3 := HM1.out.block (hb13.block _ hA1)
    have HF := hide (fieldsOf_any hM3 (by omega) (by omega))
    have hb3l := builder_lt hbu3'
    rw [HLS.out] at HF
    clear hbu3 hb3 hbu3' hb13 hM3 HB12 HBu2
    go_wp2_with fail
    refine HF.out.mono ?_
    rintro e w4 ⟨G, cap, xs, I, rfl, hF⟩
    have HST : Hid (EnI w1 w.heap.size w3.heap.size G ls xs m 0 (Pk.enc kn) w4) := by
      have hb := hF.bl
      have hr := hF.row
      exact ⟨builder_below HBu3.out hb (Nat.le_refl _), hr, hF.mg, HB13.out.trans (hb.mono HB13.out.size), by rw [List.drop_zero]; exact HE.out⟩
    clear hF HF
    go_wp2
    go_loopw [20] (fun u wr => ∃ (i : Nat) (acc : List UInt8), u = .int .i64 (i : Int) ∧ i ≤ ls.length ∧ Hid (EnI w1 w.heap.size w3.heap.size G ls xs m i acc wr)) (fun u _ => ls.length - (intOf u).toNat)
    case atStart => exact ⟨0, _, rfl, Nat.zero_le _, HST.out⟩
    case round =>
      obtain ⟨i, acc, rfl, hi, HI⟩ := hrel
      have hacc : acc.length ≤ 2048 := by
        have := congrArg List.length HI.out.by_
        rw [List.length_append] at this
        omega
      by_cases hil : i < ls.length
      · have d0 : decide ((i : Int) < (ls.length : Int)) = true := by simp; omega
        obtain ⟨bs, P, i1, i2, i3, i4, c1, c2, c3, c4, x0, x1, x2, x3, hP, hC⟩ := HI.out.row.fd i hil
        have q0 := HI.out.row.cell i 0 hil (by decide)
        have q1 := HI.out.row.cell i 1 hil (by decide)
        have q2 := HI.out.row.cell i 2 hil (by decide)
        have q3 := HI.out.row.cell i 3 hil (by decide)
        rw [Nat.add_zero, Nat.add_zero, x0] at q0
        rw [x1] at q1
        rw [x2] at q2
        rw [x3] at q3
        have e3 := hC.e3
        have HCc := hide hC
        clear x0 x1 x2 x3 hC
        have hba := below_alloc wr (.cells #[.func (.func i1) #[] c1, .func (.func i2) #[] c2, .func (.func i3) #[] c3, .func (.func i4) #[] c4] 179)
        have HIa := hide (HI.out.up hba)
        have HPa := hide (HCc.out.keep _ _ hP (fun j hj => hba.block j (HCc.out.high _ hP j hj)))
        have hmy := HMay.out ls[i] (List.getElem_mem hil)
        have HMy := hide hmy
        have hlay : (Wr.lay ls[i] (Wr.get ls[i] m)).length ≤ 2048 := by
          have h1 := congrArg List.length HI.out.by_
          rw [body_drop hil, List.length_append, List.length_append] at h1
          omega
        clear hP hba hmy
        go_wp2_with fail
        refine (HCc.out.lay _ m HPa.out HIa.out.mg rfl HRB.out HMy.out).mono ?_
        rintro e w5 ⟨rfl, hb5⟩
        have HI5 := hide (HIa.out.up hb5)
        clear hb5
        go_wp2_with fail
        refine (writeString_k w1.heap.size w1.heap.size (Lib.byteCells acc) ⟨(Wr.lay ls[i] (Wr.get ls[i] m)).toArray⟩ w5 HI5.out.bu (by rw [Lib.byteCells_length]; show acc.length + (Wr.lay ls[i] (Wr.get ls[i] m)).toArray.size ≤ _; simp; omega) HI5.out.bl.size).mono ?_
        rintro e w6 ⟨rfl, hbu6, hb6, hk6⟩
        have HN := hide (HI5.out.step hil hA1 hb3l hb6 hk6 hbu6)
        clear hbu6 hb6 hk6
        go_wp2
        exact ⟨⟨i + 1, _, by go_num, by omega, HN.out⟩, by simp [intOf]; omega⟩
      · have d0 : decide ((i : Int) < (ls.length : Int)) = false := by simp; omega
        obtain rfl : i = ls.length := by omega
        have hfin : Wr.bytes m = acc := by
          have := HI.out.by_
          rw [List.drop_length] at this
          simpa [Wr.body] using this
        have HFin := hide hfin
        clear hfin
        go_wp2_with fail
        refine (Tryz.Builder_String_any_k w1.heap.size w1.heap.size acc wr HI.out.bu HI.out.bl.size).mono ?_
        rintro e w7 ⟨rfl, _, hb7, _⟩
        have HB7 : Hid (Below w.heap.size w w7) := HBL.out.trans ((HI.out.bl.trans hb7).mono (by omega))
        clear hb7
        go_wp2
        go_ret2
        exact ⟨by rw [← HR.out, HFin.out]; rfl, HB7.out⟩
  · have hB : encB m = ⟨#[]⟩ := if_neg hc
    have hb : ((Wr.check m : Int) != 0) = true := by simp; omega
    rw [hB]
    generalize Wr.check m = E at *
    unfold msgC at *
    go_enter Tryz.func90, Tryz.ntmps90
    go_wp2_with fail
    refine (HC.out _).mono ?_
    rintro e w1 ⟨rfl, hb1⟩
    have hbl : Below w.heap.size w w1 := (below_alloc w _).trans (hb1.mono (by simp))
    clear hb1
    go_wp2
    go_ret2
    exact ⟨rfl, hbl⟩
end Go.Proofs.YtkfnedhllfdghaaGreatDoor.W
end

section
namespace Go.Proofs.YtkfnedhllfdghaaGreatDoor.W
set_option maxRecDepth 20000
open Go.RowKit Go.Shelf
open Wr (Ms V L)

theorem results_msg {fn : Func} {p u : Tmp} (h : fn.results = #[.cell p 67, .tmp u]) (tmps : Array Value) (w : World) (g : Nat) (cs : Array Value) (hp : tmps.getD p undef = .pointer (some ⟨g, 0, none⟩)) (hg : w.heap[g]? = some (.cells cs 67 (0, 0))) (hc : cs.size = 11) :
    (results fn tmps).run Tryz.prog w = .ok (.tuple #[.agg cs, tmps.getD u undef]) w := by
  have he := run_loadVar_row (P := Tryz.prog) w g 67 67 cs (0, 0) _ hg Tryz.underlying67 rfl (by rw [hc]; kernel_rfl)
  rw [results_cell_tmp h, hp]
  simp [asAddr, he]
theorem lim_p : Wr.Lim limP := ⟨fun k l => by have := most_hi k l; unfold limP; omega, fun k l => by have := most_hi k l; unfold limP; omega⟩
structure DeI (w : World) (A B base G : Nat) (b : ByteArray) (ls : List L) (xs : List Value) (k : Int) (R : Nat × Nat × Ms) (i p f : Nat) (mi : Ms) (wr : World) : Prop where
  row : Row A base k ls G xs wr
  mg : Mg wr A mi
  mik : mi.k = k
  rd : Rd wr B b (p : Int) (f : Int)
  ple : p ≤ b.size
  bl : Below (w.heap.size + 1) (w.alloc (.cells (msgC (Wr.zM 0)) 67)) wr
  eq : R = Wr.rds b (limP k) (ls.drop i) p f mi
theorem DeI.up {w : World} {A B base G : Nat} {b : ByteArray} {ls : List L} {xs : List Value} {k : Int} {R : Nat × Nat × Ms} {i p f : Nat} {mi : Ms} {wr w3 : World} (h : DeI w A B base G b ls xs k R i p f mi wr) (hb : Below wr.heap.size wr w3) : DeI w A B base G b ls xs k R i p f mi w3 :=
  ⟨h.row.below hb, h.mg.block (hb.block A h.mg.lt), h.mik, Rd.block h.rd (hb.block B h.rd.lt), h.ple, h.bl.trans (hb.mono (by have := h.bl.size; simp at this; omega)), h.eq⟩
theorem rdT_le (b : ByteArray) (lim p f : Nat) (hp : p ≤ b.size) : (Wr.rdT b lim p f).2.1 ≤ b.size := by
  by_cases hf : f ≠ 0
  · rw [Wr.rdT_dead hf]; exact hp
  · rw [Decidable.not_not] at hf; subst hf
    by_cases h : (Wr.rdT b lim p 0).2.2 = 0
    · exact (Wr.rdT_form hp h).1
    · unfold Wr.rdT at h ⊢
      rw [if_neg (by simp)] at h ⊢
      by_cases h1 : textK b p lim = 0
      · rw [if_pos h1] at h; exact absurd rfl h
      · rw [if_neg h1]; exact hp
theorem rdB_le (b : ByteArray) (p f : Nat) (hp : p ≤ b.size) : (Wr.rdB b p f).2.1 ≤ b.size := by
  by_cases hf : f ≠ 0
  · rw [Wr.rdB_dead hf]; exact hp
  · rw [Decidable.not_not] at hf; subst hf
    by_cases h : (Wr.rdB b p 0).2.2 = 0
    · exact (Wr.rdB_form h).1
    · unfold Wr.rdB at h ⊢
      rw [if_neg (by simp)] at h ⊢
      by_cases h1 : bitsK b p = 0
      · rw [if_pos h1] at h; exact absurd rfl h
      · rw [if_neg h1]; exact hp
theorem rd_le (b : ByteArray) (lim : L → Nat) (l : L) (p f : Nat) (hp : p ≤ b.size) : (Wr.rd b lim l p f).2.1 ≤ b.size := by
  cases l
  case R => exact rdB_le _ _ _ (Wr.rdN_le b _ p f hp).2
  case T => exact rdT_le _ _ _ _ hp
  case P => exact rdT_le _ _ _ _ hp
  all_goals exact (Wr.rdN_le b _ p f hp).2
theorem rds_drop {b : ByteArray} {lim : L → Nat} {ls : List L} {i : Nat} (hi : i < ls.length) (p f : Nat) (mi : Ms) : Wr.rds b lim (ls.drop i) p f mi = Wr.rds b lim (ls.drop (i + 1)) (Wr.rd b lim ls[i] p f).2.1 (Wr.rd b lim ls[i] p f).2.2 (Wr.set ls[i] (Wr.rd b lim ls[i] p f).1 mi) := by
  rw [List.drop_eq_getElem_cons hi]; rfl
theorem DeI.step {w : World} {A B base G : Nat} {b : ByteArray} {ls : List L} {xs : List Value} {k : Int} {R : Nat × Nat × Ms} {i p f : Nat} {mi : Ms} {w3 w4 : World} (h : DeI w A B base G b ls xs k R i p f mi w3) (hi : i < ls.length) (hA : A < base) (hB : B < base) (lA : w.heap.size + 1 ≤ A) (lB : w.heap.size + 1 ≤ B)
    (hm : Mg w4 A (Wr.set ls[i] (Wr.rd b (limP k) ls[i] p f).1 mi)) (hr : Rd w4 B b ((Wr.rd b (limP k) ls[i] p f).2.1 : Int) ((Wr.rd b (limP k) ls[i] p f).2.2 : Int)) (hc : Ch A B w3 w4) :
    DeI w A B base G b ls xs k R (i + 1) (Wr.rd b (limP k) ls[i] p f).2.1 (Wr.rd b (limP k) ls[i] p f).2.2 (Wr.set ls[i] (Wr.rd b (limP k) ls[i] p f).1 mi) w4 :=
  ⟨h.row.ch hc hA hB, hm, by rw [Wr.k_set]; exact h.mik, hr, rd_le _ _ _ _ _ h.ple, Ch.bel h.bl hc (by simp; omega) (by simp; omega) (by simp), h.eq.trans (rds_drop hi p f mi)⟩
set_option maxHeartbeats 1000000 in
theorem set11 {w W : World} {R : Nat} {z : Ms} (h : Mg W R z) (hb : Below w.heap.size w W) (hR : w.heap.size ≤ R) (v0 v1 v2 v3 v4 v5 v6 v7 v8 v9 v10 : Value) :
    (((((((((((W.setCell ⟨R, 0, none⟩ v0).setCell ⟨R, 1, none⟩ v1).setCell ⟨R, 2, none⟩ v2).setCell ⟨R, 3, none⟩ v3).setCell ⟨R, 4, none⟩ v4).setCell ⟨R, 5, none⟩ v5).setCell ⟨R, 6, none⟩ v6).setCell ⟨R, 7, none⟩ v7).setCell ⟨R, 8, none⟩ v8).setCell ⟨R, 9, none⟩ v9).setCell ⟨R, 10, none⟩ v10).heap[R]? = some (.cells #[v0, v1, v2, v3, v4, v5, v6, v7, v8, v9, v10] 67 (0, 0)) ∧ Below w.heap.size w (((((((((((W.setCell ⟨R, 0, none⟩ v0).setCell ⟨R, 1, none⟩ v1).setCell ⟨R, 2, none⟩ v2).setCell ⟨R, 3, none⟩ v3).setCell ⟨R, 4, none⟩ v4).setCell ⟨R, 5, none⟩ v5).setCell ⟨R, 6, none⟩ v6).setCell ⟨R, 7, none⟩ v7).setCell ⟨R, 8, none⟩ v8).setCell ⟨R, 9, none⟩ v9).setCell ⟨R, 10, none⟩ v10) := by
  unfold Mg msgC at h
  refine ⟨?_, ?_⟩
  · have h0 : (W.setCell ⟨R, 0, none⟩ v0).heap[R]? = some (.cells #[v0, .int .i64 z.se, .int .i64 z.nu, .int .i64 z.jo, .int .i64 z.ba, .int .i64 z.ix, .int .i64 z.co, .int .i64 z.rc, .int .u64 (z.rb : Int), .string z.tx, .string z.pr] 67 (0, 0)) := cells_set h 0 v0
    have h1 : ((W.setCell ⟨R, 0, none⟩ v0).setCell ⟨R, 1, none⟩ v1).heap[R]? = some (.cells #[v0, v1, .int .i64 z.nu, .int .i64 z.jo, .int .i64 z.ba, .int .i64 z.ix, .int .i64 z.co, .int .i64 z.rc, .int .u64 (z.rb : Int), .string z.tx, .string z.pr] 67 (0, 0)) := cells_set h0 1 v1
    have h2 : (((W.setCell ⟨R, 0, none⟩ v0).setCell ⟨R, 1, none⟩ v1).setCell ⟨R, 2, none⟩ v2).heap[R]? = some (.cells #[v0, v1, v2, .int .i64 z.jo, .int .i64 z.ba, .int .i64 z.ix, .int .i64 z.co, .int .i64 z.rc, .int .u64 (z.rb : Int), .string z.tx, .string z.pr] 67 (0, 0)) := cells_set h1 2 v2
    have h3 : ((((W.setCell ⟨R, 0, none⟩ v0).setCell ⟨R, 1, none⟩ v1).setCell ⟨R, 2, none⟩ v2).setCell ⟨R, 3, none⟩ v3).heap[R]? = some (.cells #[v0, v1, v2, v3, .int .i64 z.ba, .int .i64 z.ix, .int .i64 z.co, .int .i64 z.rc, .int .u64 (z.rb : Int), .string z.tx, .string z.pr] 67 (0, 0)) := cells_set h2 3 v3
    have h4 : (((((W.setCell ⟨R, 0, none⟩ v0).setCell ⟨R, 1, none⟩ v1).setCell ⟨R, 2, none⟩ v2).setCell ⟨R, 3, none⟩ v3).setCell ⟨R, 4, none⟩ v4).heap[R]? = some (.cells #[v0, v1, v2, v3, v4, .int .i64 z.ix, .int .i64 z.co, .int .i64 z.rc, .int .u64 (z.rb : Int), .string z.tx, .string z.pr] 67 (0, 0)) := cells_set h3 4 v4
    have h5 : ((((((W.setCell ⟨R, 0, none⟩ v0).setCell ⟨R, 1, none⟩ v1).setCell ⟨R, 2, none⟩ v2).setCell ⟨R, 3, none⟩ v3).setCell ⟨R, 4, none⟩ v4).setCell ⟨R, 5, none⟩ v5).heap[R]? = some (.cells #[v0, v1, v2, v3, v4, v5, .int .i64 z.co, .int .i64 z.rc, .int .u64 (z.rb : Int), .string z.tx, .string z.pr] 67 (0, 0)) := cells_set h4 5 v5
    have h6 : (((((((W.setCell ⟨R, 0, none⟩ v0).setCell ⟨R, 1, none⟩ v1).setCell ⟨R, 2, none⟩ v2).setCell ⟨R, 3, none⟩ v3).setCell ⟨R, 4, none⟩ v4).setCell ⟨R, 5, none⟩ v5).setCell ⟨R, 6, none⟩ v6).heap[R]? = some (.cells #[v0, v1, v2, v3, v4, v5, v6, .int .i64 z.rc, .int .u64 (z.rb : Int), .string z.tx, .string z.pr] 67 (0, 0)) := cells_set h5 6 v6
    have h7 : ((((((((W.setCell ⟨R, 0, none⟩ v0).setCell ⟨R, 1, none⟩ v1).setCell ⟨R, 2, none⟩ v2).setCell ⟨R, 3, none⟩ v3).setCell ⟨R, 4, none⟩ v4).setCell ⟨R, 5, none⟩ v5).setCell ⟨R, 6, none⟩ v6).setCell ⟨R, 7, none⟩ v7).heap[R]? = some (.cells #[v0, v1, v2, v3, v4, v5, v6, v7, .int .u64 (z.rb : Int), .string z.tx, .string z.pr] 67 (0, 0)) := cells_set h6 7 v7
    have h8 : (((((((((W.setCell ⟨R, 0, none⟩ v0).setCell ⟨R, 1, none⟩ v1).setCell ⟨R, 2, none⟩ v2).setCell ⟨R, 3, none⟩ v3).setCell ⟨R, 4, none⟩ v4).setCell ⟨R, 5, none⟩ v5).setCell ⟨R, 6, none⟩ v6).setCell ⟨R, 7, none⟩ v7).setCell ⟨R, 8, none⟩ v8).heap[R]? = some (.cells #[v0, v1, v2, v3, v4, v5, v6, v7, v8, .string z.tx, .string z.pr] 67 (0, 0)) := cells_set h7 8 v8
    have h9 : ((((((((((W.setCell ⟨R, 0, none⟩ v0).setCell ⟨R, 1, none⟩ v1).setCell ⟨R, 2, none⟩ v2).setCell ⟨R, 3, none⟩ v3).setCell ⟨R, 4, none⟩ v4).setCell ⟨R, 5, none⟩ v5).setCell ⟨R, 6, none⟩ v6).setCell ⟨R, 7, none⟩ v7).setCell ⟨R, 8, none⟩ v8).setCell ⟨R, 9, none⟩ v9).heap[R]? = some (.cells #[v0, v1, v2, v3, v4, v5, v6, v7, v8, v9, .string z.pr] 67 (0, 0)) := cells_set h8 9 v9
    have h10 : (((((((((((W.setCell ⟨R, 0, none⟩ v0).setCell ⟨R, 1, none⟩ v1).setCell ⟨R, 2, none⟩ v2).setCell ⟨R, 3, none⟩ v3).setCell ⟨R, 4, none⟩ v4).setCell ⟨R, 5, none⟩ v5).setCell ⟨R, 6, none⟩ v6).setCell ⟨R, 7, none⟩ v7).setCell ⟨R, 8, none⟩ v8).setCell ⟨R, 9, none⟩ v9).setCell ⟨R, 10, none⟩ v10).heap[R]? = some (.cells #[v0, v1, v2, v3, v4, v5, v6, v7, v8, v9, v10] 67 (0, 0)) := cells_set h9 10 v10
    exact h10
  · have hk : ∀ (W : World) (i : Nat) (v : Value), Below w.heap.size w W → Below w.heap.size w (W.setCell ⟨R, i, none⟩ v) := fun W i v hb => ⟨hb.os, hb.tape, hb.output, by simpa using hb.size, fun j hj => (Below.heap_setCell W _ v j (by show j ≠ R; omega)).trans (hb.block j hj)⟩
    exact hk _ _ _ (hk _ _ _ (hk _ _ _ (hk _ _ _ (hk _ _ _ (hk _ _ _ (hk _ _ _ (hk _ _ _ (hk _ _ _ (hk _ _ _ (hk _ _ _ hb))))))))))
theorem end_k (b : ByteArray) (p f : Nat) : endE b p f = (Wr.endK b p f : Int) := by
  unfold endE Wr.endK
  by_cases hf : f = 0
  · subst hf
    by_cases hp : p < b.size <;> simp [hp]
  · rw [if_neg (by omega), if_pos hf]
set_option maxRecDepth 8000 in
set_option maxHeartbeats 2000000 in
theorem decode_any (b : ByteArray) (w : World) (hbs : b.size ≤ 9223372036854775807) : Calls Tryz.prog 57 #[.string b] w fun e w' => e = .returned (.tuple #[.agg (msgC (Wr.decode limP b).1), .int .i64 ((Wr.decode limP b).2 : Int)]) ∧ Below w.heap.size w w' := by
  by_cases h1 : 2048 < b.size
  · have hd : Wr.decode limP b = (Wr.zM 0, 73) := if_pos h1
    have d0 : decide ((b.size : Int) > 2048) = true := by simp; omega
    rw [hd]
    go_enter Tryz.func57, Tryz.ntmps57
    go_wp2
    refine bodyPost_ret (results_msg rfl _ _ w.heap.size (msgC (Wr.zM 0)) rfl (heap_alloc_new w _) rfl) rfl ⟨rfl, below_alloc _ _⟩
  · have d0 : decide ((b.size : Int) > 2048) = false := by simp; omega
    have hd : Wr.decode limP b = (let h := Wr.rdN b 16 0 0; let r := Wr.rds b (limP h.1) (Wr.letters h.1) h.2.1 h.2.2 (Wr.zM h.1); if Wr.endK b r.1 r.2.1 ≠ 0 ∨ Wr.check r.2.2 ≠ 0 then (Wr.zM 0, 72) else (r.2.2, 0)) := if_neg h1
    rw [hd]
    simp only
    have hN := hide (fun (w : World) (B : Nat) (h : Rd w B b 0 0) => rnumQ (x := 16) (most := 16) (p := 0) (f := 0) h (Nat.zero_le _) (by omega) rfl)
    have hle := Wr.rdN_le b 16 0 0 (Nat.zero_le _)
    generalize hk : (Wr.rdN b 16 0 0).1 = k at *
    generalize hp : (Wr.rdN b 16 0 0).2.1 = p0 at *
    generalize hf : (Wr.rdN b 16 0 0).2.2 = f0 at *
    generalize hls : Wr.letters (k : Int) = ls at *
    have hl5 : ls.length ≤ 5 := by subst hls; exact letters_five _
    generalize hR : Wr.rds b (limP k) ls p0 f0 (Wr.zM k) = R at *
    have hRb : R.2.2.rb < 18446744073709551616 := by rw [← hR]; exact Wr.rds_rb _ _ _ _ _ _ (show (0 : Nat) < _ by decide)
    have HRb := hide hRb
    generalize hD : (if Wr.endK b R.1 R.2.1 ≠ 0 ∨ Wr.check R.2.2 ≠ 0 then (Wr.zM 0, 72) else (R.2.2, 0)) = D at *
    have HD := hide hD
    have HR := hide hR
    have HLS := hide hls
    clear hRb hD
    clear hk hp hf hls hR hd
    go_enter Tryz.func57, Tryz.ntmps57
    go_wp2_with fail
    refine (read_any b _).mono ?_
    rintro e w1 ⟨rfl, hR1, hb1⟩
    rw [World.size_alloc] at hR1 hb1 ⊢
    have hZ1 : Below (w.heap.size + 1) (w.alloc (.cells (msgC (Wr.zM 0)) 67)) w1 := hb1
    have hl1 := hR1.lt
    clear hb1
    go_wp2_with fail
    refine (hN.out w1 _ hR1).mono ?_
    rintro e w2 ⟨rfl, hR2, hg2⟩
    have hZ2 : Below (w.heap.size + 1) (w.alloc (.cells (msgC (Wr.zM 0)) 67)) w2 := ⟨hg2.os.trans hZ1.os, hg2.tape.trans hZ1.tape, hg2.output.trans hZ1.output, Nat.le_trans hZ1.size hg2.size, fun j hj => (hg2.block j (by omega) (by simp; omega)).trans (hZ1.block j hj)⟩
    have hs2 : w.heap.size + 1 < w2.heap.size := hR2.lt
    have hwr : IntKind.i64.wrap (k : Int) = (k : Int) := by rw [IntKind.wrap_i64]; omega
    have HMs : Hid (Mg (w2.alloc (.cells (msgC (Wr.zM k)) 67)) w2.heap.size (Wr.zM k)) := heap_alloc_new w2 _
    have HF := hide (fieldsOf_any HMs.out (show 0 ≤ (k : Int) by omega) (show (k : Int) ≤ 16 by omega))
    rw [show (Wr.zM (k : Int)).k = (k : Int) from rfl, HLS.out] at HF
    have HR2 := hide hR2
    have HZ2 := hide hZ2
    clear hR1 hg2 hR2 hZ1 hZ2
    go_wp2_with fail
    refine HF.out.mono ?_
    rintro e w3 ⟨G, cap, xs, I, rfl, hF⟩
    have HST : Hid (DeI w w2.heap.size (w.heap.size + 1) (w2.heap.size + 1) G b ls xs k R 0 p0 f0 (Wr.zM k) w3) := by
      have hb := hF.bl
      have hr := hF.row
      rw [World.size_alloc] at hb hr
      exact ⟨hr, hF.mg, rfl, Rd.block (HR2.out.alloc _) (hb.block _ (by omega)), hle.2, (HZ2.out.trans (((below_alloc w2 _).trans (hb.mono (by omega))).mono (by omega))), by rw [List.drop_zero]; exact HR.out.symm⟩
    have hs3 : w2.heap.size < w3.heap.size := HST.out.mg.lt
    clear hF HF
    go_wp2
    go_loopw [22] (fun u wr => ∃ (i p f : Nat) (mi : Ms), u = .int .i64 (i : Int) ∧ i ≤ ls.length ∧ Hid (DeI w w2.heap.size (w.heap.size + 1) (w2.heap.size + 1) G b ls xs k R i p f mi wr)) (fun u _ => ls.length - (intOf u).toNat)
    case atStart => exact ⟨0, p0, f0, _, rfl, Nat.zero_le _, HST.out⟩
    case round =>
      obtain ⟨i, p, f, mi, rfl, hi, HI⟩ := hrel
      by_cases hil : i < ls.length
      · have e0 : decide ((i : Int) < (ls.length : Int)) = true := by simp; omega
        obtain ⟨bs, P, i1, i2, i3, i4, c1, c2, c3, c4, x0, x1, x2, x3, hP, hC⟩ := HI.out.row.fd i hil
        have q0 := HI.out.row.cell i 0 hil (by decide)
        have q1 := HI.out.row.cell i 1 hil (by decide)
        have q2 := HI.out.row.cell i 2 hil (by decide)
        have q3 := HI.out.row.cell i 3 hil (by decide)
        rw [Nat.add_zero, Nat.add_zero, x0] at q0
        rw [x1] at q1
        rw [x2] at q2
        rw [x3] at q3
        have e4 := hC.e4
        have HCc := hide hC
        clear x0 x1 x2 x3 hC
        have hba := below_alloc wr (.cells #[.func (.func i1) #[] c1, .func (.func i2) #[] c2, .func (.func i3) #[] c3, .func (.func i4) #[] c4] 179)
        have HIa := hide (HI.out.up hba)
        have HPa := hide (HCc.out.keep _ _ hP (fun j hj => hba.block j (HCc.out.high _ hP j hj)))
        clear hP hba
        go_wp2_with fail
        refine (HCc.out.rd _ mi (w.heap.size + 1) b p f HPa.out HIa.out.mg HIa.out.rd HIa.out.ple (by omega) (by omega) (by omega)).mono ?_
        rintro e w5 ⟨rfl, hm5, hr5, hc5⟩
        have HN := hide (HIa.out.step hil (by omega) (by omega) (by omega) (by omega) hm5 hr5 hc5)
        clear hm5 hr5 hc5
        go_wp2
        exact ⟨⟨i + 1, _, _, _, by go_num, by omega, HN.out⟩, by simp [intOf]; omega⟩
      · have e0 : decide ((i : Int) < (ls.length : Int)) = false := by simp; omega
        obtain rfl : i = ls.length := by omega
        have heq := HI.out.eq
        rw [List.drop_length] at heq
        have heq : R = (p, f, mi) := heq
        subst heq
        have HEnd := hide (end_any HI.out.rd (by omega) (by have := HI.out.ple; omega) (by omega))
        rw [end_k] at HEnd
        go_wp2_with fail
        refine HEnd.out.mono ?_
        rintro e w6 ⟨rfl, n6, hw6⟩
        have hI6 := HI.out.up (show Below wr.heap.size wr w6 by rw [hw6]; exact ⟨rfl, rfl, rfl, Nat.le_refl _, fun _ _ => rfl⟩)
        have HI6 := hide hI6
        have hZ6 : Mg w6 w.heap.size (Wr.zM 0) := (hI6.bl.block _ (by omega)).trans (heap_alloc_new w _)
        have hB6 : Below w.heap.size w w6 := (below_alloc w _).trans (hI6.bl.mono (by omega))
        have HZ6 := hide hZ6
        have HB6 := hide hB6
        have HMi := hide hI6.mg
        have m0 : w6.cell? ⟨w2.heap.size, 0, none⟩ = some (.int .i64 mi.k) := hI6.mg.all 0 _ rfl
        have m1 : w6.cell? ⟨w2.heap.size, 1, none⟩ = some (.int .i64 mi.se) := hI6.mg.all 1 _ rfl
        have m2 : w6.cell? ⟨w2.heap.size, 2, none⟩ = some (.int .i64 mi.nu) := hI6.mg.all 2 _ rfl
        have m3 : w6.cell? ⟨w2.heap.size, 3, none⟩ = some (.int .i64 mi.jo) := hI6.mg.all 3 _ rfl
        have m4 : w6.cell? ⟨w2.heap.size, 4, none⟩ = some (.int .i64 mi.ba) := hI6.mg.all 4 _ rfl
        have m5 : w6.cell? ⟨w2.heap.size, 5, none⟩ = some (.int .i64 mi.ix) := hI6.mg.all 5 _ rfl
        have m6 : w6.cell? ⟨w2.heap.size, 6, none⟩ = some (.int .i64 mi.co) := hI6.mg.all 6 _ rfl
        have m7 : w6.cell? ⟨w2.heap.size, 7, none⟩ = some (.int .i64 mi.rc) := hI6.mg.all 7 _ rfl
        have m8 : w6.cell? ⟨w2.heap.size, 8, none⟩ = some (.int .u64 (mi.rb : Int)) := hI6.mg.all 8 _ rfl
        have m9 : w6.cell? ⟨w2.heap.size, 9, none⟩ = some (.string mi.tx) := hI6.mg.all 9 _ rfl
        have m10 : w6.cell? ⟨w2.heap.size, 10, none⟩ = some (.string mi.pr) := hI6.mg.all 10 _ rfl
        clear hI6 hw6 hZ6 hB6 HI HEnd
        by_cases hE : Wr.endK b p f = 0
        · rw [hE, show ((0 : Nat) : Int) = 0 from rfl]
          have HCk := hide (check_any mi HRb.out)
          unfold msgC at HCk
          go_wp2_with fail
          refine (HCk.out _).mono ?_
          rintro e w7 ⟨rfl, hb7⟩
          have hZ7 := HZ6.out.block (hb7.block _ HZ6.out.lt)
          have HZw := hide hZ7
          have HBw := hide (HB6.out.trans (hb7.mono HB6.out.size))
          have hM7 := HMi.out.block (hb7.block _ HMi.out.lt)
          have z0 : w7.cell? ⟨w.heap.size, 0, none⟩ = some (.int .i64 0) := hZ7.all 0 _ rfl
          have z1 : w7.cell? ⟨w.heap.size, 1, none⟩ = some (.int .i64 0) := hZ7.all 1 _ rfl
          have z2 : w7.cell? ⟨w.heap.size, 2, none⟩ = some (.int .i64 0) := hZ7.all 2 _ rfl
          have z3 : w7.cell? ⟨w.heap.size, 3, none⟩ = some (.int .i64 0) := hZ7.all 3 _ rfl
          have z4 : w7.cell? ⟨w.heap.size, 4, none⟩ = some (.int .i64 0) := hZ7.all 4 _ rfl
          have z5 : w7.cell? ⟨w.heap.size, 5, none⟩ = some (.int .i64 0) := hZ7.all 5 _ rfl
          have z6 : w7.cell? ⟨w.heap.size, 6, none⟩ = some (.int .i64 0) := hZ7.all 6 _ rfl
          have z7 : w7.cell? ⟨w.heap.size, 7, none⟩ = some (.int .i64 0) := hZ7.all 7 _ rfl
          have z8 : w7.cell? ⟨w.heap.size, 8, none⟩ = some (.int .u64 0) := hZ7.all 8 _ rfl
          have z9 : w7.cell? ⟨w.heap.size, 9, none⟩ = some (.string ⟨#[]⟩) := hZ7.all 9 _ rfl
          have z10 : w7.cell? ⟨w.heap.size, 10, none⟩ = some (.string ⟨#[]⟩) := hZ7.all 10 _ rfl
          have k0 : w7.cell? ⟨w2.heap.size, 0, none⟩ = some (.int .i64 mi.k) := hM7.all 0 _ rfl
          have k1 : w7.cell? ⟨w2.heap.size, 1, none⟩ = some (.int .i64 mi.se) := hM7.all 1 _ rfl
          have k2 : w7.cell? ⟨w2.heap.size, 2, none⟩ = some (.int .i64 mi.nu) := hM7.all 2 _ rfl
          have k3 : w7.cell? ⟨w2.heap.size, 3, none⟩ = some (.int .i64 mi.jo) := hM7.all 3 _ rfl
          have k4 : w7.cell? ⟨w2.heap.size, 4, none⟩ = some (.int .i64 mi.ba) := hM7.all 4 _ rfl
          have k5 : w7.cell? ⟨w2.heap.size, 5, none⟩ = some (.int .i64 mi.ix) := hM7.all 5 _ rfl
          have k6 : w7.cell? ⟨w2.heap.size, 6, none⟩ = some (.int .i64 mi.co) := hM7.all 6 _ rfl
          have k7 : w7.cell? ⟨w2.heap.size, 7, none⟩ = some (.int .i64 mi.rc) := hM7.all 7 _ rfl
          have k8 : w7.cell? ⟨w2.heap.size, 8, none⟩ = some (.int .u64 (mi.rb : Int)) := hM7.all 8 _ rfl
          have k9 : w7.cell? ⟨w2.heap.size, 9, none⟩ = some (.string mi.tx) := hM7.all 9 _ rfl
          have k10 : w7.cell? ⟨w2.heap.size, 10, none⟩ = some (.string mi.pr) := hM7.all 10 _ rfl
          have fz := hZ7.z
          clear hb7 hZ7 hM7 m0 m1 m2 m3 m4 m5 m6 m7 m8 m9 m10
          by_cases hC : Wr.check mi = 0
          · rw [hC, show ((0 : Nat) : Int) = 0 from rfl]
            have hD' : D = (mi, 0) := by rw [← HD.out]; exact if_neg (by simp [hE, hC])
            go_wp2
            obtain ⟨f1, f2⟩ := set11 HZw.out HBw.out (Nat.le_refl _) (.int .i64 mi.k) (.int .i64 mi.se) (.int .i64 mi.nu) (.int .i64 mi.jo) (.int .i64 mi.ba) (.int .i64 mi.ix) (.int .i64 mi.co) (.int .i64 mi.rc) (.int .u64 (mi.rb : Int)) (.string mi.tx) (.string mi.pr)
            refine bodyPost_ret (results_msg rfl _ _ w.heap.size #[.int .i64 mi.k, .int .i64 mi.se, .int .i64 mi.nu, .int .i64 mi.jo, .int .i64 mi.ba, .int .i64 mi.ix, .int .i64 mi.co, .int .i64 mi.rc, .int .u64 (mi.rb : Int), .string mi.tx, .string mi.pr] rfl f1 rfl) rfl ⟨by rw [hD']; rfl, f2⟩
          · have hb : ((Wr.check mi : Int) != 0) = true := by simp; omega
            have hD' : D = (Wr.zM 0, 72) := by rw [← HD.out]; exact if_pos (.inr hC)
            generalize Wr.check mi = E at *
            go_wp2
            obtain ⟨f1, f2⟩ := set11 HZw.out HBw.out (Nat.le_refl _) (.int .i64 0) (.int .i64 0) (.int .i64 0) (.int .i64 0) (.int .i64 0) (.int .i64 0) (.int .i64 0) (.int .i64 0) (.int .u64 0) (.string ⟨#[]⟩) (.string ⟨#[]⟩)
            refine bodyPost_ret (results_msg rfl _ _ w.heap.size #[.int .i64 0, .int .i64 0, .int .i64 0, .int .i64 0, .int .i64 0, .int .i64 0, .int .i64 0, .int .i64 0, .int .u64 0, .string ⟨#[]⟩, .string ⟨#[]⟩] rfl f1 rfl) rfl ⟨by rw [hD']; rfl, f2⟩
        · have hb : ((Wr.endK b p f : Int) != 0) = true := by simp; omega
          have hD' : D = (Wr.zM 0, 72) := by rw [← HD.out]; exact if_pos (.inl hE)
          have z0 : w6.cell? ⟨w.heap.size, 0, none⟩ = some (.int .i64 0) := HZ6.out.all 0 _ rfl
          have z1 : w6.cell? ⟨w.heap.size, 1, none⟩ = some (.int .i64 0) := HZ6.out.all 1 _ rfl
          have z2 : w6.cell? ⟨w.heap.size, 2, none⟩ = some (.int .i64 0) := HZ6.out.all 2 _ rfl
          have z3 : w6.cell? ⟨w.heap.size, 3, none⟩ = some (.int .i64 0) := HZ6.out.all 3 _ rfl
          have z4 : w6.cell? ⟨w.heap.size, 4, none⟩ = some (.int .i64 0) := HZ6.out.all 4 _ rfl
          have z5 : w6.cell? ⟨w.heap.size, 5, none⟩ = some (.int .i64 0) := HZ6.out.all 5 _ rfl
          have z6 : w6.cell? ⟨w.heap.size, 6, none⟩ = some (.int .i64 0) := HZ6.out.all 6 _ rfl
          have z7 : w6.cell? ⟨w.heap.size, 7, none⟩ = some (.int .i64 0) := HZ6.out.all 7 _ rfl
          have z8 : w6.cell? ⟨w.heap.size, 8, none⟩ = some (.int .u64 0) := HZ6.out.all 8 _ rfl
          have z9 : w6.cell? ⟨w.heap.size, 9, none⟩ = some (.string ⟨#[]⟩) := HZ6.out.all 9 _ rfl
          have z10 : w6.cell? ⟨w.heap.size, 10, none⟩ = some (.string ⟨#[]⟩) := HZ6.out.all 10 _ rfl
          have fz := HZ6.out.z
          have HZw := HZ6
          have HBw := HB6
          generalize Wr.endK b p f = E at *
          go_wp2
          obtain ⟨f1, f2⟩ := set11 HZw.out HBw.out (Nat.le_refl _) (.int .i64 0) (.int .i64 0) (.int .i64 0) (.int .i64 0) (.int .i64 0) (.int .i64 0) (.int .i64 0) (.int .i64 0) (.int .u64 0) (.string ⟨#[]⟩) (.string ⟨#[]⟩)
          refine bodyPost_ret (results_msg rfl _ _ w.heap.size #[.int .i64 0, .int .i64 0, .int .i64 0, .int .i64 0, .int .i64 0, .int .i64 0, .int .i64 0, .int .i64 0, .int .u64 0, .string ⟨#[]⟩, .string ⟨#[]⟩] rfl f1 rfl) rfl ⟨by rw [hD']; rfl, f2⟩
end Go.Proofs.YtkfnedhllfdghaaGreatDoor.W
end

section
namespace Go.Proofs.YtkfnedhllfdghaaGreatDoor.W
set_option maxRecDepth 20000
open Go.RowKit Go.Shelf
open Wr (Ms V L)

def mBeat : Ms := ⟨3, 1, 300, 0, 2, 0, 0, 0, 0, ⟨#[]⟩, ⟨#[]⟩⟩
def mChunk : Ms := ⟨5, 0, 0, 0, 3, 0, 0, 0, 0, ⟨#[49, 112, 48]⟩, ⟨#[]⟩⟩
theorem beat_ok : Wr.check mBeat = 0 := by decide
theorem chunk_ok : Wr.check mChunk = 0 := by decide
theorem enc300w : Pk.enc 300 = [172, 2] := by rw [Pk.enc_ge (by decide), Pk.enc_lt (by decide)]; rfl
theorem beat_enc : encB mBeat = ⟨#[3, 1, 172, 2, 2]⟩ := by
  unfold encB
  rw [if_pos beat_ok]
  have : Wr.bytes mBeat = [3, 1, 172, 2, 2] := by
    show Pk.enc 3 ++ (Pk.enc 1 ++ (Pk.enc 300 ++ (Pk.enc 2 ++ []))) = _
    rw [enc300w, Pk.enc_lt (by decide), Pk.enc_lt (by decide), Pk.enc_lt (by decide)]; rfl
  rw [this]
theorem chunk_dec : Wr.decode limP ⟨#[5, 3, 0, 3, 49, 112, 48]⟩ = (mChunk, 0) := by
  refine Wr.decode_there lim_p (by decide) chunk_ok (by decide) ?_
  show [5, 3, 0, 3, 49, 112, 48] = Pk.enc 5 ++ (Pk.enc 3 ++ (Pk.enc 0 ++ ((Pk.enc 3 ++ [49, 112, 48]) ++ [])))
  rw [Pk.enc_lt (n := 5) (by decide), Pk.enc_lt (n := 3) (by decide), Pk.enc_lt (n := 0) (by decide)]; rfl
theorem none_dec : Wr.decode limP ⟨#[]⟩ = (Wr.zM 0, 72) := by
  rcases Wr.decode_or limP ⟨#[]⟩ with ⟨h, _⟩ | ⟨_, h | ⟨m, h⟩⟩
  · exact absurd h (by decide)
  · exact h
  · obtain ⟨_, hc, hb, _⟩ := Wr.decode_form h
    obtain ⟨t, ht⟩ := Wr.bytes_head hc
    rw [ht] at hb; cases hb
end Go.Proofs.YtkfnedhllfdghaaGreatDoor.W
end

section
namespace Go.Proofs.YtkfnedhllfdghaaGreatDoor.W
set_option maxRecDepth 20000
open Go.RowKit Go.Shelf
open Wr (Ms V L)

theorem encB_dec {b : ByteArray} {n : Ms} (h : Wr.decode limP b = (n, 0)) : encB n = b ∧ Wr.check n = 0 ∧ n.rb < 18446744073709551616 := by
  obtain ⟨h1, h2, h3, h4⟩ := Wr.decode_form h
  refine ⟨?_, h2, h4⟩
  unfold encB
  rw [if_pos h2, ← h3]
theorem dec_encB {m : Ms} (hc : Wr.check m = 0) (hb : m.rb < 18446744073709551616) : Wr.decode limP (encB m) = (m, 0) ∧ (encB m).size ≤ 2048 := by
  have hl := Wr.bytes_len hc
  unfold encB
  rw [if_pos hc]
  have hs : (⟨(Wr.bytes m).toArray⟩ : ByteArray).size ≤ 2048 := by show (Wr.bytes m).toArray.size ≤ _; simpa using hl
  exact ⟨Wr.decode_there lim_p hb hc hs (by simp), hs⟩
theorem b_out {w W : World} {o : Obj} (h : Below (w.heap.size + 1) (w.alloc o) W) : Below w.heap.size w W := (below_alloc w o).trans (h.mono (by omega))
theorem mg_in {w W : World} {m : Ms} (h : Below (w.heap.size + 1) (w.alloc (.cells (msgC m) 67)) W) : Mg W w.heap.size m := (h.block _ (by omega)).trans (heap_alloc_new w _)
theorem below_in {w W W' : World} {o : Obj} (h : Below (w.heap.size + 1) (w.alloc o) W) (h' : Below W.heap.size W W') : Below (w.heap.size + 1) (w.alloc o) W' := h.trans (h'.mono (by have := h.size; simp at this; omega))
end Go.Proofs.YtkfnedhllfdghaaGreatDoor.W
end

section
namespace Go.Proofs.YtkfnedhllfdghaaGreatDoor.W
set_option maxRecDepth 20000
open Go.RowKit Go.Shelf

set_option maxHeartbeats 400000 in
theorem wnan_any (a : Nat) (h : a < 18446744073709551616) (w : World) : Calls Tryz.prog 152 #[.int .u64 (a : Int)] w fun e w' => e = .returned (.bool (decide (clsN a = 0))) ∧ w' = w := by
  have hn := abs_andNot a h
  have hc := cls_nan a
  by_cases c : clsN a = 0
  · have h1 := hc.1 c
    rw [decide_eq_true c]
    have b1 : decide ((9218868437227405312 : Int) < ((a % 9223372036854775808 : Nat) : Int)) = true := by simp; omega
    clear hc c h1
    generalize a % 9223372036854775808 = x at *
    go_enter Tryz.func152, Tryz.ntmps152
    go_wp2
    go_ret
    exact ⟨rfl, rfl⟩
  · have h1 : ¬ 9218868437227405312 < a % 9223372036854775808 := fun e => c (hc.2 e)
    rw [decide_eq_false c]
    have b1 : decide ((9218868437227405312 : Int) < ((a % 9223372036854775808 : Nat) : Int)) = false := by simp; omega
    clear hc c h1
    generalize a % 9223372036854775808 = x at *
    go_enter Tryz.func152, Tryz.ntmps152
    go_wp2
    go_ret
    exact ⟨rfl, rfl⟩
set_option maxHeartbeats 400000 in
theorem wcanon_any (a : Nat) (h : a < 18446744073709551616) (w : World) : Calls Tryz.prog 115 #[.int .u64 (a : Int)] w fun e w' => e = .returned (.int .u64 (Gn.canonW a : Int)) ∧ w' = w := by
  unfold Gn.canonW
  have HN := hide (wnan_any a h)
  by_cases hn : clsN a = 0
  · rw [if_pos ((cls_nan a).1 hn)]
    rw [decide_eq_true hn] at HN
    clear hn
    go_enter Tryz.func115, Tryz.ntmps115
    go_wp2_with (go_at_call 152; refine (HN.out _).mono ?_; rintro e w' ⟨rfl, rfl⟩)
    go_ret
    exact ⟨rfl, rfl⟩
  · rw [if_neg (fun k => hn ((cls_nan a).2 k))]
    rw [decide_eq_false hn] at HN
    clear hn
    go_enter Tryz.func115, Tryz.ntmps115
    go_wp2_with (go_at_call 152; refine (HN.out _).mono ?_; rintro e w' ⟨rfl, rfl⟩)
    go_ret
    exact ⟨rfl, rfl⟩
end Go.Proofs.YtkfnedhllfdghaaGreatDoor.W
end
