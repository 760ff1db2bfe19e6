import Derived.Test.YtlgcimfbhjidgaaMgAT
import Derived.Test.YtlgcimfbhjidgaaMgAU
import Derived.Test.YtlgcimfbhjidgaaMgAY
import Derived.Deep.AppendLies
import Derived.Test.YtlgcimfbhjidgaaMgAQ
import Derived.Laws.OwnMore
import Derived.ArgAppend

section
namespace Go.Proofs.Ytlgcimfbhjidgaa
open Go.RowKit
open Rc (L V Ch)

theorem get_any {w : World} {G p f : Nat} {b : ByteArray} (h : RR w G 0 b p f (aD p f)) (hp : p ≤ b.size) (hb : b.size ≤ 140737488351232) : Calls Try.prog 11 #[.pointer (some ⟨G, 0, none⟩)] w (GetP w G b (Rc.dget b p f)) := by
  have hl := (Wr.rdN_le b 6 p f hp).1
  rcases (show (Wr.rdN b 6 p f).1 = 0 ∨ (Wr.rdN b 6 p f).1 = 1 ∨ (Wr.rdN b 6 p f).1 = 2 ∨ (Wr.rdN b 6 p f).1 = 3 ∨ (Wr.rdN b 6 p f).1 = 4 ∨ (Wr.rdN b 6 p f).1 = 5 ∨ (Wr.rdN b 6 p f).1 = 6 by omega) with hk | hk | hk | hk | hk | hk | hk
  · exact get_0 h hp hb hk
  · exact get_1 h hp hb hk
  · exact get_2 h hp hb hk
  · exact get_3 h hp hb hk
  · exact get_4 h hp hb hk
  · exact get_5 h hp hb hk
  · exact get_6 h hp hb hk
theorem own_typeC {w : World} {n0 n : Nat} {v : Value} {xs : List Value} (h : w.ownsRow n0 32 10 v n xs) {X : Nat} {cs : Array Value} {ty : TypeId} (hX : w.heap[X]? = some (.cells cs ty (0, 0))) (hty : ty ≠ 32) : some X ≠ v.ownBlock := by
  rcases h.2 with ⟨rfl, _⟩ | ⟨g, cap, cur, rfl, _, hg, _⟩
  · simp [Value.ownBlock]
  · intro e
    simp only [Value.ownBlock, Option.some.injEq] at e
    subst e
    rw [hg] at hX
    simp only [Option.some.injEq, Obj.cells.injEq] at hX
    exact hty hX.2.1.symm
theorem own_stepC {w w' : World} {n0 n : Nat} {v : Value} {xs : List Value} (h : w.ownsRow n0 32 10 v n xs) (hb : ∀ X, some X = v.ownBlock → w'.heap[X]? = w.heap[X]?) : w'.ownsRow n0 32 10 v n xs := by
  refine ⟨h.1, ?_⟩
  rcases h.2 with h2 | ⟨g, cap, cur, rfl, h3, hg, h4⟩
  · exact .inl h2
  · exact .inr ⟨g, cap, cur, rfl, h3, (hb g rfl).trans hg, h4⟩
theorem own_sliceC {w : World} {n0 n : Nat} {v : Value} {xs : List Value} (h : w.ownsRow n0 32 10 v n xs) : ∃ p cap, v = .slice p n cap := by
  rcases h.2 with ⟨rfl, rfl⟩ | ⟨g, cap, cur, rfl, _⟩
  · exact ⟨none, 0, rfl⟩
  · exact ⟨_, cap, rfl⟩
theorem own_blkC {w : World} {n0 n X : Nat} {v : Value} {xs : List Value} (h : w.ownsRow n0 32 10 v n xs) (e : some X = v.ownBlock) : ∃ cs, w.heap[X]? = some (.cells cs 32 (0, 0)) := by
  rcases h.2 with ⟨rfl, _⟩ | ⟨g, cap, cur, rfl, _, hg, _⟩
  · cases e
  · cases e; exact ⟨_, hg⟩
theorem own_blkS {w : World} {n0 n X : Nat} {v : Value} {xs : List Value} (h : w.ownsRow n0 9 1 v n xs) (e : some X = v.ownBlock) : ∃ cs, w.heap[X]? = some (.cells cs 9 (0, 0)) := by
  rcases h.2 with ⟨rfl, _⟩ | ⟨g, cap, cur, rfl, _, hg, _⟩
  · cases e
  · cases e; exact ⟨_, hg⟩
theorem own_baseS {w : World} {n0 n1 n : Nat} {v : Value} {xs : List Value} (h : w.ownsRow n0 9 1 v n xs) (hn : n1 ≤ n0) : w.ownsRow n1 9 1 v n xs := by
  refine ⟨h.1, ?_⟩
  rcases h.2 with h2 | ⟨g, cap, cur, rfl, h3, h4⟩
  · exact .inl h2
  · exact .inr ⟨g, cap, cur, rfl, Nat.le_trans hn h3, h4⟩
/-- a row of changes, all of it its owner's -/
structure Ow (n0 : Nat) (v : Value) (vals : List (Ch × Value)) (w : World) : Prop where
  ch : w.ownsRow n0 32 10 v vals.length (flatV vals)
  tx : ∀ x ∈ vals, w.ownsRow n0 9 1 x.2 x.1.tx.length (strs x.1.tx)
theorem Ow.keep {n0 : Nat} {v : Value} {vals : List (Ch × Value)} {w w' : World} (h : Ow n0 v vals w) (hk : ∀ (X : Nat) (cs : Array Value) (ty : TypeId), n0 ≤ X → w.heap[X]? = some (.cells cs ty (0, 0)) → (ty = 32 ∨ ty = 9) → w'.heap[X]? = w.heap[X]?) : Ow n0 v vals w' :=
  ⟨own_stepC h.ch (fun X hX => by obtain ⟨cs, hc⟩ := own_blkC h.ch hX; exact hk X cs _ (h.ch.lt X hX.symm).1 hc (.inl rfl)), fun x hx => own_stepS (h.tx x hx) (fun X hX => by obtain ⟨cs, hc⟩ := own_blkS (h.tx x hx) hX; exact hk X cs _ ((h.tx x hx).lt X hX.symm).1 hc (.inr rfl))⟩
theorem Ow.below {n0 : Nat} {v : Value} {vals : List (Ch × Value)} {w w' : World} (h : Ow n0 v vals w) (hb : Below w.heap.size w w') : Ow n0 v vals w' := h.keep fun _ _ _ _ hX _ => hb.block _ (lt_of_block hX)
theorem Ow.txs {n0 : Nat} {v : Value} {vals : List (Ch × Value)} {w : World} (h : Ow n0 v vals w) (hr : ∀ c ∈ vals.map Prod.fst, c.rb < 18446744073709551616 ∧ c.tx.length ≤ 8) : Txs w vals := fun x hx => by
  have := hr x.1 (List.mem_map_of_mem hx)
  exact ⟨tx_own (h.tx x hx), by omega, this.1⟩
/-- one more -/
theorem Ow.app {n0 : Nat} {v v' t : Value} {c : Ch} {vals : List (Ch × Value)} {w w' : World} (h : Ow n0 v vals w) (hg : w.grownBy w' v.ownBlock) (ht : w.ownsRow n0 9 1 t c.tx.length (strs c.tx)) (ho : w'.ownsRow n0 32 10 v' (vals.length + 1) (flatV vals ++ (chC c t).toList)) : Ow n0 v' (vals ++ [(c, t)]) w' := by
  have hk : ∀ {u : Value} {n : Nat} {xs : List Value}, w.ownsRow n0 9 1 u n xs → w'.ownsRow n0 9 1 u n xs := fun hu => own_stepS hu (fun X hX => by
    obtain ⟨cs, hc⟩ := own_blkS hu hX
    exact hg.block X (lt_of_block hc) (own_typeC h.ch hc (by decide)))
  refine ⟨?_, fun x hx => ?_⟩
  · rw [show (vals ++ [(c, t)]).length = vals.length + 1 by simp, show flatV (vals ++ [(c, t)]) = flatV vals ++ (chC c t).toList by simp [flatV]]
    exact ho
  · rcases List.mem_append.1 hx with hx | hx
    · exact hk (h.tx x hx)
    · rw [List.mem_singleton] at hx; subst hx; exact hk ht
/-- the document's Decode under way -/
structure Dl (w : World) (G : Nat) (b : ByteArray) (s : List Ch × Nat × Nat) (lv : Value) (vals : List (Ch × Value)) (V : World) : Prop where
  rr : RR V G 0 b (s.2.1 : Int) (s.2.2 : Int) (aD s.2.1 s.2.2)
  ow : Ow w.heap.size lv vals V
  eq : vals.map Prod.fst = s.1
  bl : Below w.heap.size w V
  hG : w.heap.size ≤ G
  ple : s.2.1 ≤ b.size
section
variable {w V V' : World} {G : Nat} {b : ByteArray} {s : List Ch × Nat × Nat} {lv : Value} {vals : List (Ch × Value)}
theorem Dl.below (h : Dl w G b s lv vals V) (hb : Below V.heap.size V V') : Dl w G b s lv vals V' :=
  ⟨h.rr.keep (hb.block _ h.rr.lt), h.ow.below hb, h.eq, h.bl.trans (hb.mono h.bl.size), h.hG, h.ple⟩
/-- behind a change that was read, as it lies in a block of its own -/
theorem Dl.get (h : Dl w G b s lv vals V) {D : Ch × Nat × Nat} (hR : RR V' G 0 b (D.2.1 : Int) (D.2.2 : Int) (aD D.2.1 D.2.2)) (ho : Og G V V') (hp : D.2.1 ≤ b.size) : Dl w G b (s.1, D.2) lv vals V' := by
  refine ⟨hR, h.ow.keep (fun X cs ty hX hc ht => ho.block X (lt_of_block hc) (fun e => ?_)), h.eq, ?_, h.hG, hp⟩
  · subst e
    obtain ⟨cur, hr⟩ := h.rr.blk
    rw [hr] at hc
    simp only [Option.some.injEq, Obj.cells.injEq] at hc
    rcases ht with rfl | rfl
    · exact absurd hc.2.1 (by decide)
    · exact absurd hc.2.1 (by decide)
  · have := h.bl.size
    have := h.hG
    exact ⟨ho.os.trans h.bl.os, ho.tape.trans h.bl.tape, ho.output.trans h.bl.output, Nat.le_trans h.bl.size ho.size, fun j hj => (ho.block j (by omega) (by omega)).trans (h.bl.block j hj)⟩
theorem Dl.app (h : Dl w G b s lv vals V) {c : Ch} {t v' : Value} (hg : V.grownBy V' lv.ownBlock) (ht : V.ownsRow w.heap.size 9 1 t c.tx.length (strs c.tx)) (ho : V'.ownsRow w.heap.size 32 10 v' (vals.length + 1) (flatV vals ++ (chC c t).toList)) : Dl w G b (s.1 ++ [c], s.2) v' (vals ++ [(c, t)]) V' := by
  obtain ⟨cur, hr⟩ := h.rr.blk
  refine ⟨h.rr.keep (hg.block G h.rr.lt (own_typeC h.ow.ch hr (by decide))), h.ow.app hg ht ho, by simp [h.eq], ?_, h.hG, h.ple⟩
  have := h.bl.size
  exact ⟨hg.os.trans h.bl.os, hg.tape.trans h.bl.tape, hg.output.trans h.bl.output, Nat.le_trans h.bl.size hg.size, fun j hj => (hg.block j (by omega) (fun e => by have := (h.ow.ch.lt j e.symm).1; omega)).trans (h.bl.block j hj)⟩
end
theorem chC_one (c : Ch) (t : Value) (ht : t.oneCell' = true) : ∀ u ∈ (chC c t).toList, u.oneCell' = true := by
  intro u hu
  simp only [chC, List.mem_cons, List.not_mem_nil, or_false] at hu
  rcases hu with rfl | rfl | rfl | rfl | rfl | rfl | rfl | rfl | rfl | rfl
  all_goals first | rfl | exact ht
/-- what the document's Decode leaves -/
def RDec (w0 : World) (x : Option (List Ch)) (e : Ending) (w' : World) : Prop :=
  match x with
  | some l => ∃ v vals, e = .returned (.tuple #[v, .int .i64 0]) ∧ vals.map Prod.fst = l ∧ Ow w0.heap.size v vals w' ∧ Below w0.heap.size w0 w'
  | none => e = .returned (.tuple #[.slice none 0 0, .int .i64 83]) ∧ Below w0.heap.size w0 w'
set_option maxHeartbeats 4000000 in
set_option maxRecDepth 8000 in
theorem rdec_any (b : ByteArray) (hb : b.size ≤ 140737488351232) (w : World) : Calls Try.prog 5 #[.string b] w (RDec w (Rc.deco b)) := by
  have hle := Wr.rdN_le b 16 0 0 (Nat.zero_le _)
  have HN := hide (fun (V : World) (G : Nat) (hV : RR V G 0 b (0 : Nat) (0 : Nat) (aD 0 0)) => dnumR (most := 16) (p := 0) (f := 0) hV (Nat.zero_le _) hb)
  have HG := hide (fun (V : World) (G p f : Nat) (hV : RR V G 0 b p f (aD p f)) (hp : p ≤ b.size) => get_any hV hp hb)
  have HDd : Hid (Rc.dDec b = (Rc.dCs b (Wr.rdN b 16 0 0).1 (Wr.rdN b 16 0 0).2.1 (Wr.rdN b 16 0 0).2.2).1) := hide rfl
  obtain ⟨hi1, hi2⟩ := Rc.dDec_iff b
  have HM := hide (Rc.dDec_mem b)
  have HI1 := hide hi1
  have HI2 := hide hi2
  generalize Rc.deco b = X at *
  generalize hn : (Wr.rdN b 16 0 0).1 = n at *
  generalize hp : (Wr.rdN b 16 0 0).2.1 = p0 at *
  generalize hf : (Wr.rdN b 16 0 0).2.2 = f0 at *
  obtain ⟨i0, hi0, hz0, hz1, hz2⟩ := info_parts Try.infoC
  clear hi1 hi2 hn hp hf
  go_enter Try.func5, Try.ntmps5
  go_wp2_with fail
  have hRR : RR (w.alloc (.cells #[.string b, .int .i64 0, .int .i64 0, .int .i64 0] 38)) w.heap.size 0 b (0 : Nat) (0 : Nat) (aD 0 0) := by
    have hb := heap_alloc_new w (.cells #[.string b, .int .i64 0, .int .i64 0, .int .i64 0] 38)
    refine ⟨⟨_, hb⟩, ?_, ?_, ?_, ?_⟩ <;> (unfold World.cell?; rw [hb]; rfl)
  refine (HN.out _ _ hRR).mono ?_
  rintro e w2 ⟨rfl, hR2, hW2⟩
  have hs2 : w2.heap.size = w.heap.size + 1 := by rw [hW2.size]; simp
  have hwr : IntKind.i64.wrap (n : Int) = (n : Int) := by rw [IntKind.wrap_i64]; omega
  have HD0 : Hid (Dl w w.heap.size b (Rc.dCs b 0 p0 f0) (.slice (some ⟨w2.heap.size, 0, none⟩) 0 0) [] (w2.alloc (.cells #[] 32))) := hide (by
    have hbb : Below w.heap.size w w2 := ⟨hW2.os, hW2.tape, hW2.output, by omega, fun j hj => (hW2.other j (by omega)).trans (Below.heap_alloc w _ _ hj)⟩
    refine ⟨hR2.keep (Below.heap_alloc w2 _ _ (by omega)), ⟨World.ownsRow_made (base := w.heap.size) (e := 32) (size := 10) w2 #[] 0 (by omega) (by decide) rfl, fun x hx => by cases hx⟩, rfl, hbb.trans ((below_alloc w2 _).mono (by omega)), Nat.le_refl _, hle.2⟩)
  clear hRR hR2 hW2 hs2 HN
  go_wp2_with fail
  generalize w2.heap.size = C2 at *
  go_loopw [6, 7] (fun lv u wr => ∃ (i : Nat) (vals : List (Ch × Value)), i ≤ n ∧ u = .int .i64 (i : Int) ∧ Hid (Dl w w.heap.size b (Rc.dCs b i p0 f0) lv vals wr)) (fun _ u _ => n - (intOf u).toNat)
  case atStart => exact ⟨0, [], Nat.zero_le _, rfl, HD0⟩
  case round =>
    clear HD0
    obtain ⟨i, vals, hi, rfl, HD⟩ := hrel
    have hvl : vals.length = i := by rw [← List.length_map (f := Prod.fst), HD.out.eq, Rc.dCs_len]
    obtain ⟨pl, cl, hlv⟩ := own_sliceC HD.out.ow.ch
    rw [hvl] at hlv
    subst hlv
    by_cases hii : i < n
    · have hki : (i : Int) < (n : Int) := by omega
      go_wp2_with fail
      refine (HG.out _ _ _ _ HD.out.rr HD.out.ple).mono ?_
      rintro e w5 ⟨t, rfl, hR, hO, ht⟩
      have HS : Hid (Rc.dCs b (i + 1) p0 f0 = ((Rc.dCs b i p0 f0).1 ++ [(Rc.dget b (Rc.dCs b i p0 f0).2.1 (Rc.dCs b i p0 f0).2.2).1], (Rc.dget b (Rc.dCs b i p0 f0).2.1 (Rc.dCs b i p0 f0).2.2).2)) := hide rfl
      have HD5 := hide (HD.out.get hR hO (Rc.dget_le _ _ _ HD.out.ple))
      have HT5 := hide (own_baseS ht HD.out.bl.size)
      generalize Rc.dget b (Rc.dCs b i p0 f0).2.1 (Rc.dCs b i p0 f0).2.2 = D at *
      obtain ⟨pt, ct, htv⟩ := own_sliceS ht
      clear hR hO ht HD
      generalize Rc.dCs b i p0 f0 = SS at *
      obtain ⟨c, qq⟩ := D
      simp only at HS HD5 HT5 htv
      subst htv
      have hone := chC_one c (.slice pt c.tx.length ct) rfl
      have hb1 := below_alloc w5 (.cells (chC c (.slice pt c.tx.length ct)) 32)
      have hb2 := below_alloc (w5.alloc (.cells (chC c (.slice pt c.tx.length ct)) 32)) (.cells (chC c (.slice pt c.tx.length ct)) 32)
      have hnew := heap_alloc_new (w5.alloc (.cells (chC c (.slice pt c.tx.length ct)) 32)) (.cells (chC c (.slice pt c.tx.length ct)) 32)
      rw [World.size_alloc] at hnew
      have HD7 := hide ((HD5.out.below hb1).below hb2)
      have HT7 := hide ((HT5.out.alloc (.cells (chC c (.slice pt c.tx.length ct)) 32)).alloc (.cells (chC c (.slice pt c.tx.length ct)) 32))
      have hO7 := HD7.out.ow.ch
      rw [hvl] at hO7
      have hsz5 := HD5.out.bl.size
      have HVl := hide hvl
      have HNw := hide hnew
      have HO7 := hide hO7
      clear hb1 hb2 hnew hO7 hvl HD5 HT5
      unfold chC
      go_upto_region 6 with (at_builtin; refine wpList_append_own _ rfl _ _ 22 rfl w.heap.size 32 i0 (.agg (chC (Rc.zC 0) (.slice none 0 0))) 10 104 Try.underlying22 hi0 hz0 hz1 hz2 rfl (by decide) (.slice pl i cl) i (flatV vals) rfl HO7.out ⟨w5.heap.size + 1, 0, none⟩ 1 1 (chC c (.slice pt c.tx.length ct)).toList rfl rfl (World.news_of_block HNw.out) hone (by unfold maxLen; omega) (by omega) (by simp; omega) ?_; intro v8 w8 hown hgrow _; have HD9 := hide (HD7.out.app hgrow HT7.out (by rw [HVl.out]; exact hown)); clear hown hgrow)
      clear HD7 HT7 HO7 HNw hone
      go_wp2_with fail
      go_roundw
      case rel => exact ⟨i + 1, _, by omega, by go_num, by rw [HS.out]; exact HD9⟩
      case measure => simp only [intOf]; omega
    · have hki : ¬ (i : Int) < (n : Int) := by omega
      obtain rfl : i = n := by omega
      have HRw : Hid (Rw wr (.slice pl i cl) (Rc.dDec b)) := hide (by rw [HDd.out, ← HD.out.eq]; exact Rw.of_own HD.out.ow.ch (HD.out.ow.txs (by rw [HD.out.eq, ← HDd.out]; exact HM.out)))
      have HEn := hide (rencode_any HRw.out)
      have HV : Hid (vals.map Prod.fst = Rc.dDec b) := hide (by rw [HD.out.eq, HDd.out])
      have HOw := hide HD.out.ow
      have HBl := hide HD.out.bl
      clear HDd HM HD HG
      by_cases hE : Rc.enco (Rc.dDec b) = (b, 0)
      · have HX := hide (HI1.out hE)
        rw [hE] at HEn
        clear HI1 HI2 hE
        go_wp2_with fail
        refine HEn.out.mono ?_
        rintro e w6 ⟨rfl, hb6⟩
        have HOw6 := hide (HOw.out.below hb6)
        have HBl6 := hide (HBl.out.trans (hb6.mono HBl.out.size))
        clear hb6 HEn
        go_wp2_with fail
        go_ret2
        rw [HX.out]
        exact ⟨_, vals, rfl, HV.out, HOw6.out, HBl6.out⟩
      · have HX := hide (HI2.out hE)
        by_cases h2 : (Rc.enco (Rc.dDec b)).2 = 0
        · have h1 : (Rc.enco (Rc.dDec b)).1 ≠ b := fun e => hE (Prod.ext e h2)
          have hne : ((Rc.enco (Rc.dDec b)).1.toList == b.toList) = false := by simpa using fun e => h1 (toList_inj e)
          rw [h2] at HEn
          generalize (Rc.enco (Rc.dDec b)).1 = A at *
          clear HI1 HI2 hE h2 HOw HV
          go_wp2_with fail
          refine HEn.out.mono ?_
          rintro e w6 ⟨rfl, hb6⟩
          have HBl6 := hide (HBl.out.trans (hb6.mono HBl.out.size))
          clear hb6 HEn
          go_wp2_with fail
          go_ret2
          rw [HX.out]
          exact ⟨rfl, HBl6.out⟩
        · have b2 : (((Rc.enco (Rc.dDec b)).2 : Int) != 0) = true := by simp; omega
          generalize (Rc.enco (Rc.dDec b)).2 = k at *
          generalize (Rc.enco (Rc.dDec b)).1 = A at *
          clear HI1 HI2 hE h2 HOw HV
          go_wp2_with fail
          refine HEn.out.mono ?_
          rintro e w6 ⟨rfl, hb6⟩
          have HBl6 := hide (HBl.out.trans (hb6.mono HBl.out.size))
          clear hb6 HEn
          go_wp2_with fail
          go_ret2
          rw [HX.out]
          exact ⟨rfl, HBl6.out⟩
end Go.Proofs.Ytlgcimfbhjidgaa
end

section
namespace Go.Proofs.Ytlgcimfbhjidgaa
open Go.RowKit
open Rc (L V Ch)

/-- an append of one cell to a row whose shape alone is known: nothing that was there is turned, or the cell behind the row -/
theorem wpList_append_sh {P : Program} {w : World} {ops : Array Oper} {rest : List Oper} {o : Oper} {a : Act} {Q : Exit → Act → World → Prop} (hgd : o.guard = none) (s x : Operand) (t : TypeId)
    (ho : o.op = .call { callee := .builtin .append, args := #[s, x], argTypes := #[t, t] })
    (e : TypeId) (i : TypeInfo) (z : Value) (bytes : Nat) (ht : P.underlying t = some (.slice e)) (hi : P.info? e = some i) (hz : i.zero = some z)
    (hsize : i.size = 1) (hby : i.bytes = bytes) (hzs : z.cells.size = 1)
    (v : Value) (n : Nat) (hs : a.eval s = v) (hsh : (v = .slice none 0 0 ∧ n = 0) ∨ ∃ g cap cur, v = .slice (some ⟨g, 0, none⟩) n cap ∧ w.heap[g]? = some (.cells cur e (0, 0)) ∧ n ≤ cap ∧ cap ≤ maxLen ∧ cur.size = cap)
    (ad : Addr) (u : Value) (hx : a.eval x = .slice (some ad) 1 1) (hu : w.cell? (ad.add 0) = some u) (hone : u.oneCell' = true)
    (h63 : n + 1 ≤ maxLen) (hbytes : (n + 1) * bytes ≤ 140737488355328)
    (h : ∀ v' w', (∃ p k, v' = .slice p (n + 1) k) → (w.grownBy w' none ∨ ∃ g, v.ownBlock = some g ∧ w' = w.setCell ⟨g, n, none⟩ u) → wpList P ops Q rest (a.put o.dst v') w') : wpList P ops Q (o :: rest) a w := by
  have hnews : ∀ j y, ([u] : List Value)[j]? = some y → w.cell? (ad.add j) = some y := by
    intro j y hj
    match j, hj with
    | 0, hj => simp only [List.getElem?_cons_zero, Option.some.injEq] at hj; subst hj; exact hu
  have h1 : ∀ y ∈ ([u] : List Value), y.oneCell' = true := by intro y hy; simp only [List.mem_singleton] at hy; subst hy; exact hone
  rcases hsh with ⟨rfl, rfl⟩ | ⟨g, cap, cur, rfl, hg, hnc, hcm, hcs⟩
  · refine wpList_append_own _ hgd s x t ho w.heap.size e i z 1 bytes ht hi hz hsize hby hzs (by decide) (.slice none 0 0) 0 [] hs (World.ownsRow_nil _ _ _ _) ad 1 1 [u] hx rfl hnews h1 h63 hbytes (Nat.le_refl _) ?_
    intro v' w' hown hgr _
    refine h v' w' ?_ (.inl hgr)
    rcases hown.2 with ⟨_, h0⟩ | ⟨g, cap, cur, rfl, _⟩
    · exact absurd h0 (by decide)
    · exact ⟨_, _, rfl⟩
  · by_cases hroom : n + 1 ≤ cap
    · have hrun := run_append_room_cells (P := P) (w := w) t o.type e i ht hi g 0 n cap ad 1 1 [u] (by rw [hsize]; rfl) hnews h1 hroom (by
          intro j hj
          simp only [List.length_cons, List.length_nil] at hj
          obtain rfl : j = 0 := by omega
          rw [hsize]
          have hl : 0 + n * 1 + 0 < cur.size := by omega
          simp only [World.cell?, hg]
          rw [Array.getElem?_eq_getElem hl]; rfl) (by
          intro j _
          simp [World.frozen?, hg])
      refine wpList_plain hgd fun K hK => ?_
      unfold Oper.wp
      simp [execOp, ho, resolve, invoke, builtin, hs, hx, hrun, Result.andThen]
      refine hK _ _ (h _ _ ⟨_, _, rfl⟩ (.inr ⟨g, rfl, ?_⟩))
      rw [hsize, Nat.mul_one]
      rfl
    · refine wpList_append_grows w hgd s x t ho e i z 1 bytes ht hi hz hsize hby hzs (by decide) (some ⟨g, 0, none⟩) n cap (cur.toList.take n) hs (fun e => by cases e) (by rw [List.length_take, Array.length_toList]; omega) (fun b hb j y hj => ?_) ad 1 1 [u] hx rfl hnews h1 (by omega) h63 hbytes ?_
      · cases hb
        rw [List.getElem?_take] at hj
        split at hj
        · rw [Addr.add_lit, Nat.zero_add]
          simp only [World.cell?, hg]
          simpa using hj
        · cases hj
      · intro v' w' hown hgr
        refine h v' w' ?_ (.inl hgr)
        rcases hown.2 with ⟨_, h0⟩ | ⟨g, cap, cur, rfl, _⟩
        · exact absurd h0 (by omega)
        · exact ⟨_, _, rfl⟩
def er : Option (List Ch) → Int
  | some _ => 0
  | none => 83
/-- what either Decode leaves -/
def DP (w0 : World) (L : List Ch) (E : Int) (e : Ending) (w' : World) : Prop := ∃ v vals, e = .returned (.tuple #[v, .int .i64 E]) ∧ vals.map Prod.fst = L ∧ Ow w0.heap.size v vals w' ∧ Below w0.heap.size w0 w'
theorem RDec.dp {w0 w' : World} {X : Option (List Ch)} {e : Ending} (h : RDec w0 X e w') : DP w0 (X.getD []) (er X) e w' := by
  cases X with
  | none => obtain ⟨rfl, hb⟩ := h; exact ⟨_, [], rfl, rfl, ⟨World.ownsRow_nil _ _ _ _, fun x hx => by cases hx⟩, hb⟩
  | some l => obtain ⟨v, vals, rfl, h1, h2, h3⟩ := h; exact ⟨v, vals, rfl, h1, h2, h3⟩
theorem EPost.dp {w0 w' : World} {X : Option (List Ch)} {e : Ending} (h : EPost w0 X e w') (hl : ∀ l, X = some l → l.length ≤ 16) : DP w0 (X.getD []) (er X) e w' := by
  cases X with
  | none => obtain ⟨rfl, hb⟩ := h; exact ⟨_, [], rfl, rfl, ⟨World.ownsRow_nil _ _ _ _, fun x hx => by cases hx⟩, hb⟩
  | some l =>
    obtain ⟨A, vals, rfl, h1, hN⟩ := h
    have hn : vals.length ≤ 16 := by have := hl l rfl; rw [← h1] at this; simpa using this
    refine ⟨_, vals, rfl, h1, ⟨⟨flatV_len vals, .inr ⟨A, vals.length, _, rfl, hN.hA, hN.ch, Nat.le_refl _, by unfold maxLen; omega, by rw [List.size_toArray, flatV_len], ?_⟩⟩, hN.own⟩, hN.bel⟩
    rw [List.take_of_length_le]
    show (flatV vals).length ≤ _
    rw [flatV_len]
    exact Nat.le_refl _
theorem Ow.rw {n0 : Nat} {v : Value} {vals : List (Ch × Value)} {w : World} {l : List Ch} (h : Ow n0 v vals w) (hv : vals.map Prod.fst = l) (hr : ∀ c ∈ l, c.rb < 18446744073709551616 ∧ c.tx.length ≤ 8) : Rw w v l := by
  subst hv
  exact Rw.of_own h.ch (h.txs hr)
/-- of what there was the blocks from n0 up to n1 alone are turned -/
structure Fz (n0 n1 : Nat) (w V : World) : Prop where
  os : V.os = w.os
  tape : V.tape = w.tape
  output : V.output = w.output
  size : w.heap.size ≤ V.heap.size
  block : ∀ j, j < w.heap.size → (j < n0 ∨ n1 ≤ j) → V.heap[j]? = w.heap[j]?
theorem Fz.refl (n0 n1 : Nat) (w : World) : Fz n0 n1 w w := ⟨rfl, rfl, rfl, Nat.le_refl _, fun _ _ _ => rfl⟩
theorem Fz.low {n0 n1 : Nat} {w V V' : World} (h : Fz n0 n1 w V) (k : Below V.heap.size V V') : Fz n0 n1 w V' :=
  ⟨k.os.trans h.os, k.tape.trans h.tape, k.output.trans h.output, Nat.le_trans h.size k.size, fun j hj hn => (k.block j (Nat.lt_of_lt_of_le hj h.size)).trans (h.block j hj hn)⟩
theorem Fz.set {n0 n1 : Nat} {w V : World} (h : Fz n0 n1 w V) {g : Nat} (hg : n0 ≤ g ∧ g < n1) (k : Nat) (u : Value) : Fz n0 n1 w (V.setCell ⟨g, k, none⟩ u) :=
  ⟨h.os, h.tape, h.output, by have := h.size; simpa using this, fun j hj hn => (Below.heap_setCell _ ⟨g, k, none⟩ _ _ (by show j ≠ g; omega)).trans (h.block j hj hn)⟩
theorem grown_low {V V' : World} (hg : V.grownBy V' none) : Below V.heap.size V V' := ⟨hg.os, hg.tape, hg.output, hg.size, fun j hj => hg.block j hj (by simp)⟩
/-- the shape of a row of texts -/
def Sh (n0 n1 : Nat) (V : World) (t : Value) (m : Nat) : Prop := (t = .slice none 0 0 ∧ m = 0) ∨ ∃ g cap cur, t = .slice (some ⟨g, 0, none⟩) m cap ∧ (n0 ≤ g ∧ g < n1) ∧ V.heap[g]? = some (.cells cur 9 (0, 0)) ∧ m ≤ cap ∧ cap ≤ maxLen ∧ cur.size = cap
theorem Sh.below {n0 n1 : Nat} {V V' : World} {t : Value} {m : Nat} (h : Sh n0 n1 V t m) (k : Below V.heap.size V V') : Sh n0 n1 V' t m := by
  rcases h with h | ⟨g, cap, cur, h1, h2, h3, h4⟩
  · exact .inl h
  · exact .inr ⟨g, cap, cur, h1, h2, (k.block _ (lt_of_block h3)).trans h3, h4⟩
theorem Sh.set {n0 n1 : Nat} {V : World} {t : Value} {m : Nat} (h : Sh n0 n1 V t m) (g k : Nat) (u : Value) : Sh n0 n1 (V.setCell ⟨g, k, none⟩ u) t m := by
  rcases h with h | ⟨b, cap, cur, h1, h2, h3, h4, h5, h6⟩
  · exact .inl h
  · by_cases e : b = g
    · subst e
      exact .inr ⟨b, cap, _, h1, h2, heap_set_self V b k u cur _ _ h3, h4, h5, by simpa using h6⟩
    · exact .inr ⟨b, cap, cur, h1, h2, (Below.heap_setCell _ ⟨g, k, none⟩ _ _ e).trans h3, h4, h5, h6⟩
theorem Sh.of_own {n0 n1 : Nat} {w V : World} {t : Value} {m : Nat} {xs : List Value} (h : w.ownsRow n0 9 1 t m xs) (hn : w.heap.size ≤ n1) (hb : Below w.heap.size w V) : Sh n0 n1 V t m := by
  rcases h.2 with h | ⟨g, cap, cur, h1, h2, h3, h4, h5, h6, _⟩
  · exact .inl h
  · exact .inr ⟨g, cap, cur, h1, ⟨h2, Nat.lt_of_lt_of_le (lt_of_block h3) hn⟩, (hb.block _ (lt_of_block h3)).trans h3, h4, h5, by omega⟩
/-- the first answer while its owner writes over it: from row i on as it was -/
structure Wa (n0 n1 : Nat) (w : World) (pa : Option Addr) (n ca : Nat) (vals : List (Ch × Value)) (i : Nat) (V : World) : Prop where
  fz : Fz n0 n1 w V
  own : ∃ xs, V.ownsRow n0 32 10 (.slice pa n ca) n xs ∧ ∀ j, i ≤ j → j < n → xs[j * 10 + 9]? = some (vals[j]!).2
  lt : ∀ g, (Value.slice pa n ca).ownBlock = some g → g < n1
  tx : ∀ j, i ≤ j → j < n → Sh n0 n1 V (vals[j]!).2 (vals[j]!).1.tx.length
section
variable {n0 n1 : Nat} {w V V' : World} {pa : Option Addr} {n ca i : Nat} {vals : List (Ch × Value)}
theorem Wa.below (h : Wa n0 n1 w pa n ca vals i V) (hb : Below V.heap.size V V') : Wa n0 n1 w pa n ca vals i V' := by
  obtain ⟨xs, h1, h2⟩ := h.own
  exact ⟨h.fz.low hb, ⟨xs, own_stepC h1 (fun X hX => hb.block X (h1.lt X hX.symm).2), h2⟩, h.lt, fun j h3 h4 => (h.tx j h3 h4).below hb⟩
/-- a cell of a row of texts is written -/
theorem Wa.text (h : Wa n0 n1 w pa n ca vals i V) {g : Nat} {cur : Array Value} (hg : V.heap[g]? = some (.cells cur 9 (0, 0))) (hn : n0 ≤ g ∧ g < n1) (k : Nat) (u : Value) : Wa n0 n1 w pa n ca vals i (V.setCell ⟨g, k, none⟩ u) := by
  obtain ⟨xs, h1, h2⟩ := h.own
  exact ⟨h.fz.set hn k u, ⟨xs, own_stepC h1 (fun X hX => Below.heap_setCell _ ⟨g, k, none⟩ _ _ (by
    rintro (rfl : X = g)
    exact own_typeC h1 hg (by decide) hX)), h2⟩, h.lt, fun j h3 h4 => (h.tx j h3 h4).set g k u⟩
/-- a cell of its own is written, not ahead of the next row's -/
theorem Wa.cell {A : Nat} (h : Wa n0 n1 w (some ⟨A, 0, none⟩) n ca vals i V) {i' : Nat} (hi : i ≤ i') {k : Nat} (hk : ∀ j, i' ≤ j → k ≠ j * 10 + 9) (u : Value) : Wa n0 n1 w (some ⟨A, 0, none⟩) n ca vals i' (V.setCell ⟨A, k, none⟩ u) := by
  obtain ⟨xs, h1, h2⟩ := h.own
  have hA := (h1.lt A rfl).1
  refine ⟨h.fz.set ⟨hA, h.lt A rfl⟩ k u, ⟨xs.set k u, (h1.stored k u).1, fun j h3 h4 => ?_⟩, h.lt, fun j h3 h4 => (h.tx j (Nat.le_trans hi h3) h4).set A k u⟩
  rw [List.getElem?_set_ne (hk j h3)]
  exact h2 j (Nat.le_trans hi h3) h4
theorem Wa.at {A : Nat} (h : Wa n0 n1 w (some ⟨A, 0, none⟩) n ca vals i V) {j : Nat} (hj : i ≤ j) (hn : j < n) : V.cell? ⟨A, j * 10 + 9, none⟩ = some (vals[j]!).2 ∧ (∃ u, V.cell? ⟨A, j * 10, none⟩ = some u) ∧ (∀ k, V.frozen? ⟨A, k, none⟩ = false) := by
  obtain ⟨xs, h1, h2⟩ := h.own
  have hl := h1.1
  refine ⟨(h1.cellAt (j * 10 + 9) (by omega)).trans (h2 j hj hn), ⟨xs[j * 10]'(by omega), (h1.cellAt (j * 10) (by omega)).trans (by rw [List.getElem?_eq_getElem])⟩, fun k => h1.frozenAt k⟩
theorem Wa.new {v : Value} {w1 : World} (h : Ow n0 v vals w1) (hv : v = .slice pa n ca) (hn : vals.length = n) (h1 : w1.heap.size ≤ n1) (hb : Below w1.heap.size w1 w) : Wa n0 n1 w pa n ca vals 0 w := by
  subst hv
  subst hn
  have ho := h.ch
  refine ⟨Fz.refl _ _ _, ⟨flatV vals, own_stepC ho (fun X hX => hb.block X (ho.lt X hX.symm).2), fun j _ hj => ?_⟩, fun g hg => Nat.lt_of_lt_of_le (ho.lt g hg).2 h1, fun j _ hj => ?_⟩
  · rw [flatV_get hj (by decide), getElem!_pos vals j hj]
    rfl
  · rw [getElem!_pos vals j hj]
    exact Sh.of_own (h.tx _ (List.getElem_mem hj)) h1 hb
/-- a text more behind row i's -/
theorem Wa.app (h : Wa n0 n1 w pa n ca vals i V) (hi : i < n) {V8 : World} {u : Value} (hc : V.grownBy V8 none ∨ ∃ g, (vals[i]!).2.ownBlock = some g ∧ V8 = V.setCell ⟨g, (vals[i]!).1.tx.length, none⟩ u) : Wa n0 n1 w pa n ca vals i V8 := by
  rcases hc with hg | ⟨g, h1, rfl⟩
  · exact h.below (grown_low hg)
  · rcases h.tx i (Nat.le_refl _) hi with ⟨h2, _⟩ | ⟨b, cap, cur, h2, h3, h4, _⟩
    · rw [h2] at h1; cases h1
    · rw [h2] at h1
      cases h1
      exact h.text h4 h3 _ _
theorem Wa.grown (h : Wa n0 n1 w pa n ca vals i V) {V8 : World} (hg : V.grownBy V8 (Value.slice pa n ca).ownBlock) : Fz n0 n1 w V8 := by
  obtain ⟨xs, h1, _⟩ := h.own
  have h0 := h.fz
  exact ⟨hg.os.trans h0.os, hg.tape.trans h0.tape, hg.output.trans h0.output, Nat.le_trans h0.size hg.size, fun j hj hn => (hg.block j (Nat.lt_of_lt_of_le hj h0.size) (fun e => by
    have a1 := (h1.lt j e.symm).1
    have a2 := h.lt j e.symm
    omega)).trans (h0.block j hj hn)⟩
theorem Ow.fz {m0 : Nat} {v : Value} (h : Ow m0 v vals w) (hz : Fz n0 n1 w V) (hm : n1 ≤ m0) : Ow m0 v vals V := h.keep fun X _ _ hX hc _ => hz.block X (lt_of_block hc) (.inr (Nat.le_trans hm hX))
end
end Go.Proofs.Ytlgcimfbhjidgaa
end

section
namespace Go.Proofs.Ytlgcimfbhjidgaa
open Go.RowKit
open Rc (L V Ch)

theorem own_rootC {V : World} {n0 n ca : Nat} {pa : Option Addr} {xs : List Value} (h : V.ownsRow n0 32 10 (.slice pa n ca) n xs) (hn : 0 < n) : ∃ A, pa = some ⟨A, 0, none⟩ := by
  rcases h.2 with ⟨_, h0⟩ | ⟨g, cap, cur, h1, _⟩
  · omega
  · injection h1 with h1 _ _
    exact ⟨g, h1⟩
theorem Sh.fact {n0 n1 : Nat} {V : World} {t : Value} {m : Nat} (h : Sh n0 n1 V t m) : (t = .slice none 0 0 ∧ m = 0) ∨ ∃ g cap cur, t = .slice (some ⟨g, 0, none⟩) m cap ∧ V.heap[g]? = some (.cells cur 9 (0, 0)) ∧ m ≤ cap ∧ cap ≤ maxLen ∧ cur.size = cap := by
  rcases h with h | ⟨g, cap, cur, h1, _, h3⟩
  · exact .inl h
  · exact .inr ⟨g, cap, cur, h1, h3⟩
theorem Sh.slice {n0 n1 : Nat} {V : World} {t : Value} {m : Nat} (h : Sh n0 n1 V t m) : ∃ p c, t = .slice p m c := by
  rcases h with ⟨h, rfl⟩ | ⟨g, cap, cur, h, _⟩
  · exact ⟨none, 0, h⟩
  · exact ⟨_, cap, h⟩
set_option maxHeartbeats 8000000 in
set_option maxRecDepth 8000 in
theorem recordDecodes_walk (b : ByteArray) (hb : b.size ≤ 140737488351232) (w : World) : Calls Try.prog 3 #[.string b] w fun e w' => e = .returned (.bool true) ∧ Below w.heap.size w w' := by
  have hXl : ∀ l, Rc.deco b = some l → l.length ≤ 16 := fun l h => (Rc.deco_form h).2.1.2
  have hXr : ∀ c ∈ (Rc.deco b).getD [], c.rb < 18446744073709551616 ∧ c.tx.length ≤ 8 := by
    cases hd : Rc.deco b with
    | none => intro c hc; cases hc
    | some l => rw [← Rc.deco_dDec hd]; exact Rc.dDec_mem b
  have hXn : ((Rc.deco b).getD []).length ≤ 16 := by
    cases hd : Rc.deco b with
    | none => exact Nat.zero_le _
    | some l => exact hXl l hd
  have HDe := hide (fun V => (decode_any b hb V).mono (fun _ _ h => EPost.dp h hXl))
  have HDr := hide (fun V => (rdec_any b hb V).mono (fun _ _ h => RDec.dp h))
  generalize (Rc.deco b).getD [] = L at *
  generalize er (Rc.deco b) = E at *
  have HSa := hide (fun (V : World) (v v' : Value) (h : Rw V v L) (h' : Rw V v' L) => same_any h h' (by omega))
  simp only [decide_true] at HSa
  have HR := hide hXr
  have hEE : (E != E) = false := by simp
  obtain ⟨iS, hiS, zS0, zS1, zS2⟩ := info_parts Try.infoS
  obtain ⟨iC, hiC, zC0, zC1, zC2⟩ := info_parts Try.infoC
  have HFx := hide (fun V => fixed_any V)
  clear hXl hXr
  go_enter Try.func3, Try.ntmps3
  go_wp2_with fail
  refine (HDe.out _).mono ?_
  rintro e w1 ⟨va, valsA, rfl, hla, hoa, hba⟩
  have hn : valsA.length = L.length := by rw [← hla]; simp
  obtain ⟨pa, ca, rfl⟩ := own_sliceC hoa.ch
  have HRa := hide (hoa.rw hla HR.out)
  have HOa := hide hoa
  have HLa := hide hla
  have HB1 := hide hba
  clear hoa hba hla
  rw [hn] at HOa HRa ⊢
  go_wp2_with fail
  refine (HDr.out _).mono ?_
  rintro e w2 ⟨vb, valsB, rfl, hlb, hob, hbb⟩
  have hnb : valsB.length = L.length := by rw [← hlb]; simp
  obtain ⟨pb, cb, rfl⟩ := own_sliceC hob.ch
  rw [hnb] at hob ⊢
  have HRa2 := hide (HRa.out.below hbb (Nat.le_refl _))
  have HRb := hide (hob.rw hlb HR.out)
  have HOb := hide hob
  have HB2 := hide hbb
  have HLb := hide hlb
  clear hob hbb hlb hnb HRa
  go_wp2_with fail
  refine (HSa.out _ _ _ HRa2.out HRb.out).mono ?_
  rintro e w3 ⟨rfl, hb3⟩
  have HB3 := hide hb3
  clear hb3 HRa2 HRb
  go_wp2_with fail
  refine (HDe.out _).mono ?_
  rintro e w4 ⟨vc, valsC, rfl, hlc, hoc, hbc⟩
  have hnc : valsC.length = L.length := by rw [← hlc]; simp
  obtain ⟨pc, cc, rfl⟩ := own_sliceC hoc.ch
  rw [hnc] at hoc ⊢
  have hs1 := HB1.out.size
  have hs2 := HB2.out.size
  have hs3 := HB3.out.size
  have hs4 := hbc.size
  have HB14 : Hid (Below w1.heap.size w1 w4) := hide (HB2.out.trans ((HB3.out.trans (hbc.mono hs3)).mono hs2))
  have HB4 : Hid (Below w.heap.size w w4) := hide (HB1.out.trans (HB14.out.mono hs1))
  have HOb4 : Hid (Ow w1.heap.size (.slice pb L.length cb) valsB w4) := hide ((HOb.out.below HB3.out).below hbc)
  have HOc4 := hide hoc
  have HLc := hide hlc
  have HW0 : Hid (Wa w.heap.size w1.heap.size w4 pa L.length ca valsA 0 w4) := hide (Wa.new HOa.out rfl hn (Nat.le_refl _) HB14.out)
  have HHn := hide hn
  clear hoc hbc hlc hnc HOb HB2 HB3 HOa hn HB14
  generalize L.length = n at *
  go_wp2_with fail
  go_loopw [9] (fun u wr => ∃ i : Nat, i ≤ n ∧ u = .int .i64 (i : Int) ∧ Hid (Wa w.heap.size w1.heap.size w4 pa n ca valsA i wr)) (fun u _ => n - (intOf u).toNat)
  case atStart => exact ⟨0, Nat.zero_le _, rfl, HW0⟩
  case round =>
    clear HW0
    obtain ⟨i, hi, rfl, HW⟩ := hrel
    by_cases hii : i < n
    · have hki : (i : Int) < (n : Int) := by omega
      obtain ⟨A, rfl⟩ : ∃ A, pa = some ⟨A, 0, none⟩ := by
        obtain ⟨xs, h1, _⟩ := HW.out.own
        exact own_rootC h1 (by omega)
      obtain ⟨pt, ct, ht⟩ := (HW.out.tx i (Nat.le_refl _) hii).slice
      generalize hm : (valsA[i]!).1.tx.length = m at *
      have hm8 : m ≤ 8 := by
        have hl : i < valsA.length := by have := HHn.out; omega
        have h1 : (valsA[i]!).1 ∈ L := by
          rw [← HLa.out, getElem!_pos valsA i hl]
          exact List.mem_map_of_mem (List.getElem_mem hl)
        have := (HR.out _ h1).2
        omega
      go_wp2_with fail
      go_loopw [10] (fun u wr2 => ∃ k : Nat, k ≤ m ∧ u = .int .i64 (k : Int) ∧ Hid (Wa w.heap.size w1.heap.size w4 (some ⟨A, 0, none⟩) n ca valsA i wr2)) (fun u _ => m - (intOf u).toNat)
      case atStart => exact ⟨0, Nat.zero_le _, rfl, HW⟩
      case round =>
        clear HW
        obtain ⟨k, hk, rfl, HW⟩ := hrel
        obtain ⟨x9, -, -⟩ := HW.out.at (Nat.le_refl i) hii
        rw [ht] at x9
        by_cases hkm : k < m
        · have hki2 : (k : Int) < (m : Int) := by omega
          have hsh := HW.out.tx i (Nat.le_refl _) hii
          rw [hm, ht] at hsh
          rcases hsh with ⟨_, h0⟩ | ⟨g, cap, cur, h1, h2, h3, h4, _, h6⟩
          · omega
          injection h1 with e1 _ e3
          subst e1
          have hkl : k < cur.size := by omega
          have y0 : wr.cell? ⟨g, k, none⟩ = some cur[k] := by
            simp only [World.cell?, h3]
            rw [Array.getElem?_eq_getElem hkl]
            rfl
          have zg : wr.frozen? ⟨g, k, none⟩ = false := by simp [World.frozen?, h3]
          have HW2 := hide (HW.out.text h3 h2 k (.string ⟨#[111, 118, 101, 114]⟩))
          clear h2 h3 h4 h6 e3 HW
          go_wp2_with fail
          go_roundw
          case rel => exact ⟨k + 1, by omega, by go_num, HW2⟩
          case measure => simp only [intOf]; omega
        · have hki2 : ¬ (k : Int) < (m : Int) := by omega
          have HW7 := hide (HW.out.below (below_alloc wr (.cells #[.string ⟨#[109, 111, 114, 101]⟩] 9)))
          have hsh := (HW7.out.tx i (Nat.le_refl _) hii).fact
          rw [hm, ht] at hsh
          clear HW
          go_upto_region 14 with (at_builtin; refine wpList_append_sh rfl _ _ 30 rfl 9 iS (.string ByteArray.empty) 16 Try.underlying30 hiS zS0 zS1 zS2 rfl (.slice pt m ct) m rfl hsh ⟨wr.heap.size, 0, none⟩ (.string ⟨#[109, 111, 114, 101]⟩) rfl (one_newR _ _ _ 0 _ rfl) rfl (by unfold maxLen; omega) (by omega) ?_; rintro v8 w8 ⟨p8, k8, rfl⟩ hc; have HW8 := hide (HW7.out.app hii (by rw [ht, hm]; exact hc)); obtain ⟨y9, ⟨u0, y0⟩, zA⟩ := HW8.out.at (Nat.le_refl i) hii; rw [ht] at y9; clear hc)
          have HW9 := hide (HW8.out.cell (i' := i + 1) (Nat.le_succ i) (k := i * 10 + 9) (fun j hj => by omega) (.slice p8 (m + 1) k8))
          have z0 : (w8.setCell ⟨A, i * 10 + 9, none⟩ (.slice p8 (m + 1) k8)).cell? ⟨A, i * 10, none⟩ = some u0 := by rw [World.cell?_setCell_other _ _ _ _ (by simp)]; exact y0
          clear hsh HW8 HW7 x9 y9 y0
          go_wp2_with fail
          go_roundw
          case rel => exact ⟨i + 1, by omega, by go_num, hide (HW9.out.cell (Nat.le_refl _) (fun j hj => by omega) _)⟩
          case measure => simp only [intOf]; omega
    · have hki : ¬ (i : Int) < (n : Int) := by omega
      obtain rfl : i = n := by omega
      have hnew := heap_alloc_new wr (.cells (chC (Rc.zC (-8)) (.slice none 0 0)) 32)
      have HW7 := hide (HW.out.below (below_alloc wr (.cells (chC (Rc.zC (-8)) (.slice none 0 0)) 32)))
      obtain ⟨xs, hown, _⟩ := HW7.out.own
      have hsz := HW.out.fz.size
      have HNw := hide hnew
      have HO := hide hown
      clear hnew hown HW
      go_upto_region 16 with (at_builtin; refine wpList_append_own _ rfl _ _ 22 rfl w.heap.size 32 iC (.agg (chC (Rc.zC 0) (.slice none 0 0))) 10 104 Try.underlying22 hiC zC0 zC1 zC2 rfl (by decide) (.slice pa i ca) i xs rfl HO.out ⟨wr.heap.size, 0, none⟩ 1 1 (chC (Rc.zC (-8)) (.slice none 0 0)).toList rfl rfl (World.news_of_block HNw.out) (chC_one _ _ rfl) (by unfold maxLen; omega) (by omega) (by simp; omega) ?_; intro v9 w9 hown9 hgrow _; obtain ⟨p9, k9, rfl⟩ := own_sliceC hown9; have HF9 := hide (HW7.out.grown hgrow); clear hown9 hgrow)
      have HOb9 := hide (HOb4.out.fz HF9.out (Nat.le_refl _))
      have HOc9 := hide (HOc4.out.fz HF9.out (by omega))
      have HB9 : Hid (Below w.heap.size w w9) := hide ⟨HF9.out.os.trans HB4.out.os, HF9.out.tape.trans HB4.out.tape, HF9.out.output.trans HB4.out.output, Nat.le_trans HB4.out.size HF9.out.size, fun j hj => (HF9.out.block j (by omega) (.inl hj)).trans (HB4.out.block j hj)⟩
      have hs9 := HF9.out.size
      clear HF9 HW7 HO HNw HOb4 HOc4 HB4
      go_wp2_with fail
      refine (HDe.out _).mono ?_
      rintro e w10 ⟨vd, valsD, rfl, hld, hod, hbd⟩
      obtain ⟨pd, cd, rfl⟩ := own_sliceC hod.ch
      have HRb := hide ((HOb9.out.below hbd).rw HLb.out HR.out)
      have HRc := hide ((HOc9.out.below hbd).rw HLc.out HR.out)
      have HRd := hide (hod.rw hld HR.out)
      have HB10 := hide (HB9.out.trans (hbd.mono (by omega)))
      have hs10 := hbd.size
      clear hod hbd hld HOb9 HOc9 HB9
      have hlen : (((i + 1 : Nat) : Int) == (i : Int) + 1) = true := by simp
      go_wp2_with fail
      refine (HSa.out _ _ _ HRc.out HRb.out).mono ?_
      rintro e w11 ⟨rfl, hb11⟩
      have HRb2 := hide (HRb.out.below hb11 (Nat.le_refl _))
      have HRd2 := hide (HRd.out.below hb11 (Nat.le_refl _))
      have HB11 := hide (HB10.out.trans (hb11.mono (by omega)))
      have hs11 := hb11.size
      clear hb11 HRb HRd HRc HB10
      go_wp2_with fail
      refine (HSa.out _ _ _ HRd2.out HRb2.out).mono ?_
      rintro e w12 ⟨rfl, hb12⟩
      have HB12 := hide (HB11.out.trans (hb12.mono (by omega)))
      have hs12 := hb12.size
      clear hb12 HB11 HRd2 HRb2
      go_wp2_with fail
      refine (HFx.out _).mono ?_
      rintro e w13 ⟨rfl, hb13⟩
      have HB13 := hide (HB12.out.trans (hb13.mono (by omega)))
      clear hb13 HB12
      go_wp2_with fail
      go_ret
      exact ⟨rfl, HB13.out⟩
end Go.Proofs.Ytlgcimfbhjidgaa
end
