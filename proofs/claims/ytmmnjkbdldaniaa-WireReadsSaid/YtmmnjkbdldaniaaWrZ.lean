import Derived.Test.YtmmnjkbdldaniaaWrPc
namespace Go.Proofs.Ytmmnjkbdldaniaa
open Go.RowKit Go.Shelf
open Wr (Ms V L)

def aD (p f : Nat) : Int := if (f : Int) = 0 then 0 else (p : Int)
theorem aD0 (p : Nat) : aD p 0 = 0 := rfl
theorem aDn {p f : Nat} (h : f ≠ 0) : aD p f = p := if_neg (by omega)
theorem dnumP {w : World} {G p f most : Nat} {b : ByteArray} (h : RR w G 0 b p f (aD p f)) (hp : p ≤ b.size) (hb : b.size ≤ 140737488351232) :
    Calls Try.prog 31 #[.pointer (some ⟨G, 0, none⟩), .int .u64 (most : Int)] w fun e w' => e = .returned (.int .u64 ((Wr.rdN b most p f).1 : Int)) ∧ RR w' G 0 b ((Wr.rdN b most p f).2.1 : Int) ((Wr.rdN b most p f).2.2 : Int) (aD (Wr.rdN b most p f).2.1 (Wr.rdN b most p f).2.2) ∧ RW G 0 w w' := by
  by_cases hf : f = 0
  · subst hf
    refine (qnum_live (most := most) h hp hb).mono ?_
    rintro e w' (⟨hk, e1, e2, e3⟩ | ⟨hk, e1, e2, e3⟩)
    · unfold Wr.rdN; rw [if_neg (by simp), if_pos hk]; exact ⟨e1, e2, e3⟩
    · unfold Wr.rdN; rw [if_neg (by simp), if_neg hk]; exact ⟨e1, by rw [aDn hk]; exact e2, e3⟩
  · refine (qnum_dead (most := (most : Int)) h (by omega)).mono ?_
    rintro e w' ⟨e1, e2, e3⟩
    rw [Wr.rdN_dead hf]; exact ⟨e1, e2, e3⟩
theorem dtextP {w : World} {G p f most : Nat} {b : ByteArray} (hm : most ≤ 9223372036854775807) (h : RR w G 0 b p f (aD p f)) (hp : p ≤ b.size) (hb : b.size ≤ 140737488351232) :
    Calls Try.prog 33 #[.pointer (some ⟨G, 0, none⟩), .int .i64 (most : Int)] w fun e w' => e = .returned (.string (Wr.rdT b most p f).1) ∧ RR w' G 0 b ((Wr.rdT b most p f).2.1 : Int) ((Wr.rdT b most p f).2.2 : Int) (aD (Wr.rdT b most p f).2.1 (Wr.rdT b most p f).2.2) ∧ RW G 0 w w' := by
  by_cases hf : f = 0
  · subst hf
    refine (qtext_live (most := (most : Int)) (by omega) h hp hb).mono ?_
    rw [show ((most : Int)).toNat = most from rfl]
    rintro e w' (⟨hk, e1, e2, e3⟩ | ⟨hk, e1, e2, e3⟩)
    · unfold Wr.rdT; rw [if_neg (by simp), if_pos hk]; exact ⟨e1, e2, e3⟩
    · unfold Wr.rdT; rw [if_neg (by simp), if_neg hk]; exact ⟨e1, by rw [aDn hk]; exact e2, e3⟩
  · refine (qtext_dead (most := (most : Int)) (by omega) h (by omega)).mono ?_
    rintro e w' ⟨e1, e2, e3⟩
    rw [Wr.rdT_dead hf]; exact ⟨e1, e2, e3⟩
theorem dbitsP {w : World} {G p f : Nat} {b : ByteArray} (h : RR w G 0 b p f (aD p f)) (hp : p ≤ b.size) (hb : b.size ≤ 140737488351232) :
    Calls Try.prog 32 #[.pointer (some ⟨G, 0, none⟩)] w fun e w' => e = .returned (.int .u64 ((Wr.rdB b p f).1 : Int)) ∧ RR w' G 0 b ((Wr.rdB b p f).2.1 : Int) ((Wr.rdB b p f).2.2 : Int) (aD (Wr.rdB b p f).2.1 (Wr.rdB b p f).2.2) ∧ RW G 0 w w' := by
  by_cases hf : f = 0
  · subst hf
    refine (qbits_live h hp hb).mono ?_
    rintro e w' (⟨hk, e1, e2, e3⟩ | ⟨hk, e1, e2, e3⟩)
    · unfold Wr.rdB; rw [if_neg (by simp), if_pos hk]; exact ⟨e1, e2, e3⟩
    · unfold Wr.rdB; rw [if_neg (by simp), if_neg hk]; exact ⟨e1, by rw [aDn hk]; exact e2, e3⟩
  · refine (qbits_dead h (by omega)).mono ?_
    rintro e w' ⟨e1, e2, e3⟩
    rw [Wr.rdB_dead hf]; exact ⟨e1, e2, e3⟩
def limD (_ : Int) : L → Nat
  | .T => 2048 | .P => 2048 | _ => 1099511627776
theorem lim_d : Wr.Lim limD := ⟨fun k l => by cases l <;> simp only [limD] <;> decide, fun k l => by cases l <;> simp only [Wr.most, limD] <;> (try split) <;> decide⟩
/-- the document's letters, one that is none beside them -/
def lsO (k : Int) : List (Option L) := if k < 1 ∨ 16 < k then [none] else (Wr.letters k).map some
def rdsO (b : ByteArray) (lim : L → Nat) : List (Option L) → Nat → Nat → Ms → Nat × Nat × Ms
  | [], p, f, m => (p, f, m)
  | none :: ls, p, f, m => rdsO b lim ls p f m
  | some l :: ls, p, f, m => rdsO b lim ls (Wr.rd b lim l p f).2.1 (Wr.rd b lim l p f).2.2 (Wr.set l (Wr.rd b lim l p f).1 m)
theorem rdsO_some (b : ByteArray) (lim : L → Nat) (ls : List L) : ∀ p f m, rdsO b lim (ls.map some) p f m = Wr.rds b lim ls p f m := by
  induction ls with
  | nil => intro p f m; rfl
  | cons l ls ih => intro p f m; simp only [List.map_cons, rdsO, Wr.rds]; exact ih _ _ _
theorem rdsO_k (b : ByteArray) (lim : L → Nat) (k : Nat) (hk : k ≤ 16) (p f : Nat) (m : Ms) : rdsO b lim (lsO k) p f m = Wr.rds b lim (Wr.letters k) p f m := by
  unfold lsO
  by_cases h : (k : Int) < 1 ∨ 16 < (k : Int)
  · rw [if_pos h]
    obtain rfl : k = 0 := by omega
    rfl
  · rw [if_neg h]; exact rdsO_some b lim _ p f m
def lowO : Option L → UInt8
  | none => 63 | some l => lowB l
theorem lsO_len (k : Int) : (nstr k).size = (lsO k).length := by
  unfold nstr lsO
  by_cases h : k < 1 ∨ 16 < k
  · rw [if_pos h, if_pos h]; rfl
  · rw [if_neg h, if_neg h]; show (List.toArray _).size = _; simp
theorem lsO_at (k : Int) (i : Nat) (hi : i < (lsO k).length) (hs : i < (nstr k).size) : (nstr k)[i]'hs = lowO (lsO k)[i] := by
  have e : (nstr k).data.toList = (lsO k).map lowO := by
    unfold nstr lsO
    by_cases h : k < 1 ∨ 16 < k
    · rw [if_pos h, if_pos h]; rfl
    · rw [if_neg h, if_neg h, List.map_map]; rfl
  have h : i < (nstr k).data.toList.length := hs
  have : (nstr k)[i]'hs = (nstr k).data.toList[i]'h := rfl
  rw [this]
  simp only [e, List.getElem_map]
theorem rdsO_drop {b : ByteArray} {lim : L → Nat} {ls : List (Option L)} {i : Nat} (hi : i < ls.length) (p f : Nat) (mi : Ms) : rdsO b lim (ls.drop i) p f mi = rdsO b lim (ls[i] :: ls.drop (i + 1)) p f mi := by
  rw [List.drop_eq_getElem_cons hi]
structure DdI (w : World) (A G : Nat) (b : ByteArray) (ls : List (Option L)) (R : Nat × Nat × Ms) (i p f : Nat) (mi : Ms) (wr : World) : Prop where
  mg : Mg wr A mi
  rr : RR wr G 0 b p f (aD p f)
  ple : p ≤ b.size
  bl : Below (w.heap.size + 1) (w.alloc (.cells (msgC (Wr.zM 0)) 26)) wr
  eq : R = rdsO b (limD 0) (ls.drop i) p f mi
theorem RW.bl {w wr w5 : World} {G : Nat} {o : Obj} (h : RW G 0 wr w5) (hb : Below (w.heap.size + 1) (w.alloc o) wr) (hG : w.heap.size + 1 ≤ G) : Below (w.heap.size + 1) (w.alloc o) w5 :=
  ⟨h.os.trans hb.os, h.tape.trans hb.tape, h.output.trans hb.output, by rw [h.size]; exact hb.size, fun j hj => (h.other j (by omega)).trans (hb.block j hj)⟩
theorem bl_set {w w5 : World} {A : Nat} {o : Obj} (hb : Below (w.heap.size + 1) (w.alloc o) w5) (hA : w.heap.size + 1 ≤ A) (k : Nat) (v : Value) : Below (w.heap.size + 1) (w.alloc o) (w5.setCell ⟨A, k, none⟩ v) :=
  ⟨hb.os, hb.tape, hb.output, by simpa using hb.size, fun j hj => (Below.heap_setCell w5 _ v j (by show j ≠ A; omega)).trans (hb.block j hj)⟩
theorem DdI.sw {w : World} {A G : Nat} {b : ByteArray} {ls : List (Option L)} {R : Nat × Nat × Ms} {i p f : Nat} {mi : Ms} {wr w5 : World} (h : DdI w A G b ls R i p f mi wr) (hi : i < ls.length) {l : L} (hl : ls[i] = some l) (hw : isW l = true) (hlim : limD 0 l = 1099511627776) (hAG : A ≠ G) (hA : w.heap.size + 1 ≤ A) (hG : w.heap.size + 1 ≤ G)
    (hr : RR w5 G 0 b ((Wr.rdN b 1099511627776 p f).2.1 : Int) ((Wr.rdN b 1099511627776 p f).2.2 : Int) (aD (Wr.rdN b 1099511627776 p f).2.1 (Wr.rdN b 1099511627776 p f).2.2)) (hW : RW G 0 wr w5) :
    DdI w A G b ls R (i + 1) (Wr.rdN b 1099511627776 p f).2.1 (Wr.rdN b 1099511627776 p f).2.2 (Wr.set l ⟨((Wr.rdN b 1099511627776 p f).1 : Int), 0, Wr.e0⟩ mi) (w5.setCell ⟨A, off l, none⟩ (.int .i64 ((Wr.rdN b 1099511627776 p f).1 : Int))) :=
  ⟨(h.mg.block (hW.other A hAG)).sw hw _, hr.keep (Below.heap_setCell _ _ _ _ (Ne.symm hAG)), (Wr.rdN_le _ _ _ _ h.ple).2, bl_set (hW.bl h.bl hG) hA _ _, by
    rw [h.eq, rdsO_drop hi, hl, rdsO, rd_w b _ hw, hlim]⟩
theorem DdI.st {w : World} {A G : Nat} {b : ByteArray} {ls : List (Option L)} {R : Nat × Nat × Ms} {i p f : Nat} {mi : Ms} {wr w5 : World} (h : DdI w A G b ls R i p f mi wr) (hi : i < ls.length) {l : L} (hl : ls[i] = some l) (hw : isT l = true) (hlim : limD 0 l = 2048) (hAG : A ≠ G) (hA : w.heap.size + 1 ≤ A) (hG : w.heap.size + 1 ≤ G)
    (hr : RR w5 G 0 b ((Wr.rdT b 2048 p f).2.1 : Int) ((Wr.rdT b 2048 p f).2.2 : Int) (aD (Wr.rdT b 2048 p f).2.1 (Wr.rdT b 2048 p f).2.2)) (hW : RW G 0 wr w5) :
    DdI w A G b ls R (i + 1) (Wr.rdT b 2048 p f).2.1 (Wr.rdT b 2048 p f).2.2 (Wr.set l ⟨0, 0, (Wr.rdT b 2048 p f).1⟩ mi) (w5.setCell ⟨A, off l, none⟩ (.string (Wr.rdT b 2048 p f).1)) :=
  ⟨(h.mg.block (hW.other A hAG)).st hw _, hr.keep (Below.heap_setCell _ _ _ _ (Ne.symm hAG)), rdT_le _ _ _ _ h.ple, bl_set (hW.bl h.bl hG) hA _ _, by
    rw [h.eq, rdsO_drop hi, hl, rdsO, rd_t b _ hw, hlim]⟩
theorem DdI.sr {w : World} {A G : Nat} {b : ByteArray} {ls : List (Option L)} {R : Nat × Nat × Ms} {i p f : Nat} {mi : Ms} {wr w5 w6 : World} (h : DdI w A G b ls R i p f mi wr) (hi : i < ls.length) (hl : ls[i] = some .R) (hAG : A ≠ G) (hA : w.heap.size + 1 ≤ A) (hG : w.heap.size + 1 ≤ G)
    (hW : RW G 0 wr w5) (hW2 : RW G 0 (w5.setCell ⟨A, 7, none⟩ (.int .i64 ((Wr.rdN b 1099511627776 p f).1 : Int))) w6)
    (hr : RR w6 G 0 b ((Wr.rdB b (Wr.rdN b 1099511627776 p f).2.1 (Wr.rdN b 1099511627776 p f).2.2).2.1 : Int) ((Wr.rdB b (Wr.rdN b 1099511627776 p f).2.1 (Wr.rdN b 1099511627776 p f).2.2).2.2 : Int) (aD (Wr.rdB b (Wr.rdN b 1099511627776 p f).2.1 (Wr.rdN b 1099511627776 p f).2.2).2.1 (Wr.rdB b (Wr.rdN b 1099511627776 p f).2.1 (Wr.rdN b 1099511627776 p f).2.2).2.2)) :
    DdI w A G b ls R (i + 1) (Wr.rdB b (Wr.rdN b 1099511627776 p f).2.1 (Wr.rdN b 1099511627776 p f).2.2).2.1 (Wr.rdB b (Wr.rdN b 1099511627776 p f).2.1 (Wr.rdN b 1099511627776 p f).2.2).2.2 (Wr.set .R ⟨((Wr.rdN b 1099511627776 p f).1 : Int), (Wr.rdB b (Wr.rdN b 1099511627776 p f).2.1 (Wr.rdN b 1099511627776 p f).2.2).1, Wr.e0⟩ mi) (w6.setCell ⟨A, 8, none⟩ (.int .u64 ((Wr.rdB b (Wr.rdN b 1099511627776 p f).2.1 (Wr.rdN b 1099511627776 p f).2.2).1 : Int))) := by
  have m1 := cells_set (h.mg.block (hW.other A hAG)) 7 (.int .i64 ((Wr.rdN b 1099511627776 p f).1 : Int))
  have m2 := cells_set ((hW2.other A hAG).trans m1) 8 (.int .u64 ((Wr.rdB b (Wr.rdN b 1099511627776 p f).2.1 (Wr.rdN b 1099511627776 p f).2.2).1 : Int))
  exact ⟨m2, hr.keep (Below.heap_setCell _ _ _ _ (Ne.symm hAG)), rdB_le _ _ _ (Wr.rdN_le _ _ _ _ h.ple).2, bl_set (hW2.bl (bl_set (hW.bl h.bl hG) hA _ _) hG) hA _ _, by
    rw [h.eq, rdsO_drop hi, hl, rdsO]; rfl⟩
theorem DdI.sn {w : World} {A G : Nat} {b : ByteArray} {ls : List (Option L)} {R : Nat × Nat × Ms} {i p f : Nat} {mi : Ms} {wr : World} (h : DdI w A G b ls R i p f mi wr) (hi : i < ls.length) (hl : ls[i] = none) : DdI w A G b ls R (i + 1) p f mi wr :=
  ⟨h.mg, h.rr, h.ple, h.bl, by rw [h.eq, rdsO_drop hi, hl, rdsO]⟩
end Go.Proofs.Ytmmnjkbdldaniaa
