import Derived.Test.YtapcmmljdpallaaWrJ
import Derived.Lib.AppendIntMem
namespace Go.Proofs.Ytapcmmljdpallaa
set_option maxRecDepth 20000
open Go.RowKit Go.Shelf
open Wr (Ms V L)

structure EnI (w1 : World) (A base G : Nat) (ls : List L) (xs : List Value) (m : Ms) (i : Nat) (acc : List UInt8) (wr : World) : Prop where
  bu : Lib.IsBuilderF 88 5 w1.heap.size w1.heap.size (Lib.byteCells acc) wr
  row : Row A base m.k ls G xs wr
  mg : Mg wr A m
  bl : Below w1.heap.size w1 wr
  by_ : Wr.bytes m = acc ++ Wr.body m (ls.drop i)
theorem EnI.up {w1 : World} {A base G : Nat} {ls : List L} {xs : List Value} {m : Ms} {i : Nat} {acc : List UInt8} {wr w3 : World} (h : EnI w1 A base G ls xs m i acc wr) (hb : Below wr.heap.size wr w3) : EnI w1 A base G ls xs m i acc w3 :=
  ⟨builder_below h.bu hb (Nat.le_refl _), h.row.below hb, h.mg.block (hb.block A h.mg.lt), h.bl.trans (hb.mono h.bl.size), h.by_⟩
theorem body_drop {ls : List L} {i : Nat} (hi : i < ls.length) (m : Ms) : Wr.body m (ls.drop i) = Wr.lay ls[i] (Wr.get ls[i] m) ++ Wr.body m (ls.drop (i + 1)) := by
  rw [List.drop_eq_getElem_cons hi, Wr.body, List.flatMap_cons]; rfl
theorem EnI.step {w1 : World} {A base G : Nat} {ls : List L} {xs : List Value} {m : Ms} {i : Nat} {acc : List UInt8} {w3 w4 : World} (h : EnI w1 A base G ls xs m i acc w3) (hi : i < ls.length) (hA : A < w1.heap.size) (hbase : w1.heap.size < base) (b4 : Below w1.heap.size w3 w4) (k4 : Lib.OthersKept 5 (some w1.heap.size) w3 w4)
    (bu : Lib.BuilderAtF 88 5 w1.heap.size w1.heap.size (.pointer (some ⟨w1.heap.size, 0, none⟩)) (Lib.byteCells acc ++ Lib.strCells ⟨(Wr.lay ls[i] (Wr.get ls[i] m)).toArray⟩) w4) : EnI w1 A base G ls xs m (i + 1) (acc ++ Wr.lay ls[i] (Wr.get ls[i] m)) w4 := by
  refine ⟨.inr ?_, h.row.kept k4 hbase, h.mg.block (b4.block A hA), h.bl.trans b4, ?_⟩
  · rw [Lib.byteCells_append, ← Lib.strCells_toArray (Wr.lay ls[i] (Wr.get ls[i] m))]; exact bu
  · rw [h.by_, body_drop hi, List.append_assoc]
def encB (m : Ms) : ByteArray := if Wr.check m = 0 then ⟨(Wr.bytes m).toArray⟩ else ⟨#[]⟩
set_option maxRecDepth 8000 in
set_option maxHeartbeats 2000000 in
theorem encode_any (m : Ms) (hrb : m.rb < 18446744073709551616) (w : World) : Calls Try.prog 15 #[.agg (msgC m)] w fun e w' => e = .returned (.tuple #[.string (encB m), .int .i64 (Wr.check m : Int)]) ∧ Below w.heap.size w w' := by
  have HC := hide (check_any m hrb)
  by_cases hc : Wr.check m = 0
  · have hB : encB m = ⟨(Wr.bytes m).toArray⟩ := if_pos hc
    have hlen := Wr.bytes_len hc
    obtain ⟨⟨k1, k2⟩, _, hmay, _⟩ := (Wr.check_iff m).mp hc
    have HMay := hide hmay
    have HRB := hide hrb
    clear hmay
    obtain ⟨kn, hkn⟩ : ∃ kn : Nat, m.k = (kn : Int) := ⟨m.k.toNat, by omega⟩
    have hk0 : kn < 17 := by omega
    rw [hB, hc]
    rw [hc] at HC
    rw [show ((0 : Nat) : Int) = 0 from rfl] at HC ⊢
    have HE : Hid (Wr.bytes m = Pk.enc kn ++ Wr.body m (Wr.letters m.k)) := by rw [show kn = m.k.toNat by omega]; rfl
    have HS0 : Hid (Lib.strCells ⟨(Pk.enc kn).toArray⟩ = Lib.byteCells (Pk.enc kn)) := Lib.strCells_toArray _
    have henc := Pk.enc_ten (n := kn) (by omega)
    have HEn := hide henc
    have HMsg : Hid (Mg (w.alloc (.cells (msgC m) 61)) w.heap.size m) := heap_alloc_new w _
    have HK := hide hkn
    generalize hls : Wr.letters m.k = ls at *
    have hl5 : ls.length ≤ 5 := by subst hls; exact letters_five _
    have HLS := hide hls
    clear hls hB
    generalize hR : (⟨(Wr.bytes m).toArray⟩ : ByteArray) = RES at *
    have HR := hide hR
    clear hR henc hkn
    unfold msgC at HC ⊢
    go_enter Try.func15, Try.ntmps15
    go_wp2_with fail
    refine (HC.out _).mono ?_
    rintro e w1 ⟨rfl, hb1⟩
    have hM1 : Mg w1 w.heap.size m := HMsg.out.block (hb1.block _ (by simp))
    have hbl : Below w.heap.size w w1 := (below_alloc w _).trans (hb1.mono (by simp))
    have hc0 : w1.cell? ⟨w.heap.size, 0, none⟩ = some (.int .i64 (kn : Int)) := by rw [← HK.out]; exact hM1.c0
    have hc0' : ∀ ob, (w1.alloc ob).cell? ⟨w.heap.size, 0, none⟩ = some (.int .i64 (kn : Int)) := fun ob => Lib.cell?_alloc_some _ hc0
    have hA1 := hM1.lt
    have HBu : Hid (Lib.IsBuilderF 88 5 w1.heap.size w1.heap.size [] (w1.alloc (.cells #[.pointer none, .slice none 0 0] 88))) := Lib.IsBuilderF.of (Lib.fresh_isBuilder _ _ w1)
    have HM1 := hide hM1
    have HBL := hide hbl
    clear hb1 hM1 hbl
    go_wp2_with fail
    refine (pnum_any kn (by omega) _).mono ?_
    rintro e w2 ⟨rfl, hb2⟩
    have HBu2 := hide (builder_below HBu.out hb2 (Nat.le_refl _))
    have hs2 := hb2.size
    have hb12 : Below w1.heap.size w1 w2 := (below_alloc w1 _).trans (hb2.mono (by simp))
    have HB12 := hide hb12
    have hb12s := hb12.size
    clear hb2 hb12 HBu hs2
    go_wp2_with fail
    refine (writeString_k w1.heap.size w1.heap.size [] ⟨(Pk.enc kn).toArray⟩ w2 HBu2.out (by have := HEn.out; show 0 + (Pk.enc kn).toArray.size ≤ _; simp; omega) hb12s).mono ?_
    rintro e w3 ⟨rfl, hbu3, hb3, _⟩
    have hbu3' : Lib.IsBuilderF 88 5 w1.heap.size w1.heap.size (Lib.byteCells (Pk.enc kn)) w3 := by rw [List.nil_append, HS0.out] at hbu3; exact .inr hbu3
    have HBu3 := hide hbu3'
    have hb13 : Below w1.heap.size w1 w3 := HB12.out.trans hb3
    have HB13 := hide hb13
    have hM3 := HM1.out.block (hb13.block _ hA1)
    have HF := hide (fieldsOf_any hM3 (by omega) (by omega))
    have hb3l := builder_lt hbu3'
    rw [HLS.out] at HF
    clear hbu3 hb3 hbu3' hb13 hM3 HB12 HBu2
    go_wp2_with fail
    refine HF.out.mono ?_
    rintro e w4 ⟨G, cap, xs, I, rfl, hF⟩
    have HST : Hid (EnI w1 w.heap.size w3.heap.size G ls xs m 0 (Pk.enc kn) w4) := by
      have hb := hF.bl
      have hr := hF.row
      exact ⟨builder_below HBu3.out hb (Nat.le_refl _), hr, hF.mg, HB13.out.trans (hb.mono HB13.out.size), by rw [List.drop_zero]; exact HE.out⟩
    clear hF HF
    go_wp2
    go_loopw [20] (fun u wr => ∃ (i : Nat) (acc : List UInt8), u = .int .i64 (i : Int) ∧ i ≤ ls.length ∧ Hid (EnI w1 w.heap.size w3.heap.size G ls xs m i acc wr)) (fun u _ => ls.length - (intOf u).toNat)
    case atStart => exact ⟨0, _, rfl, Nat.zero_le _, HST.out⟩
    case round =>
      obtain ⟨i, acc, rfl, hi, HI⟩ := hrel
      have hacc : acc.length ≤ 2048 := by
        have := congrArg List.length HI.out.by_
        rw [List.length_append] at this
        omega
      by_cases hil : i < ls.length
      · have d0 : decide ((i : Int) < (ls.length : Int)) = true := by simp; omega
        obtain ⟨bs, P, i1, i2, i3, i4, c1, c2, c3, c4, x0, x1, x2, x3, hP, hC⟩ := HI.out.row.fd i hil
        have q0 := HI.out.row.cell i 0 hil (by decide)
        have q1 := HI.out.row.cell i 1 hil (by decide)
        have q2 := HI.out.row.cell i 2 hil (by decide)
        have q3 := HI.out.row.cell i 3 hil (by decide)
        rw [Nat.add_zero, Nat.add_zero, x0] at q0
        rw [x1] at q1
        rw [x2] at q2
        rw [x3] at q3
        have e3 := hC.e3
        have HCc := hide hC
        clear x0 x1 x2 x3 hC
        have hba := below_alloc wr (.cells #[.func (.func i1) #[] c1, .func (.func i2) #[] c2, .func (.func i3) #[] c3, .func (.func i4) #[] c4] 81)
        have HIa := hide (HI.out.up hba)
        have HPa := hide (HCc.out.keep _ _ hP (fun j hj => hba.block j (HCc.out.high _ hP j hj)))
        have hmy := HMay.out ls[i] (List.getElem_mem hil)
        have HMy := hide hmy
        have hlay : (Wr.lay ls[i] (Wr.get ls[i] m)).length ≤ 2048 := by
          have h1 := congrArg List.length HI.out.by_
          rw [body_drop hil, List.length_append, List.length_append] at h1
          omega
        clear hP hba hmy
        go_wp2_with fail
        refine (HCc.out.lay _ m HPa.out HIa.out.mg rfl HRB.out HMy.out).mono ?_
        rintro e w5 ⟨rfl, hb5⟩
        have HI5 := hide (HIa.out.up hb5)
        clear hb5
        go_wp2_with fail
        refine (writeString_k w1.heap.size w1.heap.size (Lib.byteCells acc) ⟨(Wr.lay ls[i] (Wr.get ls[i] m)).toArray⟩ w5 HI5.out.bu (by rw [Lib.byteCells_length]; show acc.length + (Wr.lay ls[i] (Wr.get ls[i] m)).toArray.size ≤ _; simp; omega) HI5.out.bl.size).mono ?_
        rintro e w6 ⟨rfl, hbu6, hb6, hk6⟩
        have HN := hide (HI5.out.step hil hA1 hb3l hb6 hk6 hbu6)
        clear hbu6 hb6 hk6
        go_wp2
        exact ⟨⟨i + 1, _, by go_num, by omega, HN.out⟩, by simp [intOf]; omega⟩
      · have d0 : decide ((i : Int) < (ls.length : Int)) = false := by simp; omega
        obtain rfl : i = ls.length := by omega
        have hfin : Wr.bytes m = acc := by
          have := HI.out.by_
          rw [List.drop_length] at this
          simpa [Wr.body] using this
        have HFin := hide hfin
        clear hfin
        go_wp2_with fail
        refine (Try.Builder_String_any_k w1.heap.size w1.heap.size acc wr HI.out.bu HI.out.bl.size).mono ?_
        rintro e w7 ⟨rfl, _, hb7, _⟩
        have HB7 : Hid (Below w.heap.size w w7) := HBL.out.trans ((HI.out.bl.trans hb7).mono (by omega))
        clear hb7
        go_wp2
        go_ret2
        exact ⟨by rw [← HR.out, HFin.out]; rfl, HB7.out⟩
  · have hB : encB m = ⟨#[]⟩ := if_neg hc
    have hb : ((Wr.check m : Int) != 0) = true := by simp; omega
    rw [hB]
    generalize Wr.check m = E at *
    unfold msgC at *
    go_enter Try.func15, Try.ntmps15
    go_wp2_with fail
    refine (HC.out _).mono ?_
    rintro e w1 ⟨rfl, hb1⟩
    have hbl : Below w.heap.size w w1 := (below_alloc w _).trans (hb1.mono (by simp))
    clear hb1
    go_wp2
    go_ret2
    exact ⟨rfl, hbl⟩
end Go.Proofs.Ytapcmmljdpallaa
