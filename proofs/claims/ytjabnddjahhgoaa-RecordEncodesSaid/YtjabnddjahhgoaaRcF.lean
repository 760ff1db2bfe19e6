import Derived.Test.YtjabnddjahhgoaaRcB
import Derived.Test.YtjabnddjahhgoaaPkL
import Derived.Lib.AppendStr
namespace Go.Proofs.Ytjabnddjahhgoaa
open Go.RowKit
open Rc (L V Ch)

theorem bc_str (l : List UInt8) : Go.Lib.strCells ⟨l.toArray⟩ = bc l := by simp [Go.Lib.strCells, bc]
theorem bc_str' (s : ByteArray) : Go.Lib.strCells s = bc s.data.toList := by simp [Go.Lib.strCells, bc]
/-- the writer: its block G, the bytes so far; the change in block A -/
structure Wt (n0 A G : Nat) (c : Ch) (t : Value) (acc : List UInt8) (w : World) : Prop where
  ca : Ca w A c t
  wt : ∃ v, w.heap[G]? = some (.cells #[v] 58 (0, 0)) ∧ w.ownsRow n0 5 1 v acc.length (bc acc)
  hA : n0 ≤ A
  hG : n0 ≤ G
theorem Wt.szG {n0 A G : Nat} {c : Ch} {t : Value} {acc : List UInt8} {w : World} (h : Wt n0 A G c t acc w) : n0 ≤ w.heap.size := Nat.le_of_lt (Nat.lt_of_le_of_lt h.hA h.ca.lt)
theorem own_type {w : World} {n0 n : Nat} {v : Value} {xs : List Value} (h : w.ownsRow n0 5 1 v n xs) {X : Nat} {cs : Array Value} {ty : TypeId} (hX : w.heap[X]? = some (.cells cs ty (0, 0))) (hty : ty ≠ 5) : some X ≠ v.ownBlock := by
  rcases h.2 with ⟨rfl, _⟩ | ⟨g, cap, cur, rfl, _, hg, _⟩
  · simp [Value.ownBlock]
  · intro e
    simp only [Value.ownBlock, Option.some.injEq] at e
    subst e
    rw [hg] at hX
    simp only [Option.some.injEq, Obj.cells.injEq] at hX
    exact hty hX.2.1.symm
theorem own_step {w w' : World} {n0 n : Nat} {v : Value} {xs : List Value} (h : w.ownsRow n0 5 1 v n xs) (hb : ∀ X, some X = v.ownBlock → w'.heap[X]? = w.heap[X]?) : w'.ownsRow n0 5 1 v n xs := by
  refine ⟨h.1, ?_⟩
  rcases h.2 with h2 | ⟨g, cap, cur, rfl, h3, hg, h4⟩
  · exact .inl h2
  · exact .inr ⟨g, cap, cur, rfl, h3, (hb g rfl).trans hg, h4⟩
theorem Wt.below {n0 A G : Nat} {c : Ch} {t : Value} {acc : List UInt8} {w w' : World} (h : Wt n0 A G c t acc w) (hb : Below w.heap.size w w') : Wt n0 A G c t acc w' := by
  obtain ⟨v, hv, ho⟩ := h.wt
  exact ⟨h.ca.block (hb.block _ h.ca.lt), ⟨v, (hb.block _ (lt_of_block hv)).trans hv, own_step ho fun X hX => hb.block _ (ho.lt X hX.symm).2⟩, h.hA, h.hG⟩
theorem Wt.drew {n0 A G : Nat} {c : Ch} {t : Value} {acc : List UInt8} {w : World} (h : Wt n0 A G c t acc w) : Wt n0 A G c t acc w.drew := h.below (Below.refl _ _).drew

theorem own_slice {w : World} {n0 n : Nat} {v : Value} {xs : List Value} (h : w.ownsRow n0 5 1 v n xs) : ∃ p m cap, v = .slice p m cap := by
  rcases h.2 with ⟨rfl, _⟩ | ⟨g, cap, cur, rfl, _⟩
  · exact ⟨_, _, _, rfl⟩
  · exact ⟨_, _, _, rfl⟩
/-- the writer alone -/
structure WtO (n0 G : Nat) (acc : List UInt8) (w : World) : Prop where
  wt : ∃ v, w.heap[G]? = some (.cells #[v] 58 (0, 0)) ∧ w.ownsRow n0 5 1 v acc.length (bc acc)
  hG : n0 ≤ G
theorem Wt.o {n0 A G : Nat} {c : Ch} {t : Value} {acc : List UInt8} {w : World} (h : Wt n0 A G c t acc w) : WtO n0 G acc w := ⟨h.wt, h.hG⟩
theorem WtO.with {n0 A G : Nat} {c : Ch} {t : Value} {acc : List UInt8} {w : World} (h : WtO n0 G acc w) (hc : Ca w A c t) (hA : n0 ≤ A) : Wt n0 A G c t acc w := ⟨hc, h.wt, hA, h.hG⟩
theorem WtO.szG {n0 G : Nat} {acc : List UInt8} {w : World} (h : WtO n0 G acc w) : n0 ≤ w.heap.size := by
  obtain ⟨v, hv, _⟩ := h.wt
  exact Nat.le_of_lt (Nat.lt_of_le_of_lt h.hG (lt_of_block hv))
theorem WtO.below {n0 G : Nat} {acc : List UInt8} {w w' : World} (h : WtO n0 G acc w) (hb : Below w.heap.size w w') : WtO n0 G acc w' := by
  obtain ⟨v, hv, ho⟩ := h.wt
  exact ⟨⟨v, (hb.block _ (lt_of_block hv)).trans hv, own_step ho fun X hX => hb.block _ (ho.lt X hX.symm).2⟩, h.hG⟩
/-- changes stay -/
def KeepC (w w' : World) : Prop := ∀ A c t, Ca w A c t → Ca w' A c t
theorem KeepC.trans {a b c : World} (h : KeepC a b) (k : KeepC b c) : KeepC a c := fun A c t hc => k A c t (h A c t hc)
theorem keepC_below {w w' : World} (hb : Below w.heap.size w w') : KeepC w w' := fun _ _ _ h => h.block (hb.block _ h.lt)
theorem lay_after {n0 G : Nat} {acc : List UInt8} {w w1 : World} {v v' : Value} {s : ByteArray} (HH : WtO n0 G acc w) (HV : w.heap[G]? = some (.cells #[v] 58 (0, 0))) (HO : w.ownsRow n0 5 1 v acc.length (bc acc))
    (hown : w1.ownsRow n0 5 1 v' (acc.length + s.size) (bc acc ++ Go.Lib.strCells s)) (hgrow : w.grownBy w1 v.ownBlock) :
    w1.cell? ⟨G, 0, none⟩ = some v ∧ w1.frozen? ⟨G, 0, none⟩ = false ∧ WtO n0 G (acc ++ s.data.toList) (w1.setCell ⟨G, 0, none⟩ v') ∧ Below n0 w (w1.setCell ⟨G, 0, none⟩ v') ∧ KeepC w (w1.setCell ⟨G, 0, none⟩ v') := by
  have hGo := own_type HO HV (by decide)
  have hg1 : w1.heap[G]? = some (.cells #[v] 58 (0, 0)) := (hgrow.block _ (lt_of_block HV) hGo).trans HV
  refine ⟨by simp [World.cell?, hg1], by simp [World.frozen?, hg1], ?_⟩
  rw [bc_str', ← bc_append, show acc.length + s.size = (acc ++ s.data.toList).length by rw [List.length_append]; rfl] at hown
  have hGo' := own_type hown hg1 (by decide)
  refine ⟨⟨⟨v', by rw [cells_set hg1]; rfl, own_step hown fun X hX => Below.heap_setCell _ _ _ _ (fun e => hGo' (by rw [show G = X from e.symm]; exact hX))⟩, HH.hG⟩, ?_, ?_⟩
  · exact ((Below.refl _ _).grown hgrow HH.szG (fun k hk => (HO.lt k hk).1)).setCell HH.hG _
  · intro A c t hc
    have hAo := own_type HO hc (by decide)
    have ha1 : Ca w1 A c t := hc.block (hgrow.block _ hc.lt hAo)
    refine ha1.block (Below.heap_setCell _ _ _ _ ?_)
    intro e; subst e
    unfold Ca at ha1; rw [hg1] at ha1
    simp only [Option.some.injEq, Obj.cells.injEq] at ha1
    exact absurd ha1.2.1 (by decide)
set_option maxHeartbeats 400000 in
set_option maxRecDepth 8000 in
theorem layO_any {n0 G : Nat} {acc : List UInt8} {w : World} (h : WtO n0 G acc w) (s : ByteArray) (hl : acc.length + s.size ≤ 140737488351232) :
    Calls Try.prog 40 #[.pointer (some ⟨G, 0, none⟩), .string s] w fun e w' => e = .returned (.tuple #[]) ∧ WtO n0 G (acc ++ s.data.toList) w' ∧ Below n0 w w' ∧ KeepC w w' := by
  obtain ⟨i0, hi, hz0, hz1, hz2⟩ := info_parts Try.infoB
  obtain ⟨v, hv, ho⟩ := h.wt
  have HO := hide ho
  have HA := hide (fun (w1 : World) (v' : Value) => lay_after (w1 := w1) (v' := v') (s := s) h hv ho)
  have cg : w.cell? ⟨G, 0, none⟩ = some v := by simp [World.cell?, hv]
  have hsz := h.szG
  clear h ho hv
  go_enter Try.func40, Try.ntmps40
  go_wp2_with (at_builtin; refine Go.Lib.wpList_append_own_string _ rfl _ _ 56 9 rfl n0 5 i0 Try.underlying56 Try.underlying9 hi hz0 hz1 hz2 v acc.length (bc acc) rfl HO.out s rfl (by unfold maxLen; omega) (by omega) hsz ?_; intro v' w1 hown hgrow hnil; obtain ⟨p', m', cap', rfl⟩ := own_slice hown; obtain ⟨cg1, zg1, hf⟩ := HA.out _ _ hown hgrow; replace hf := hide hf; clear HO HA hown hgrow hnil cg)
  go_end0
  exact ⟨rfl, hf.out⟩
theorem lay_any {n0 A G : Nat} {c : Ch} {t : Value} {acc : List UInt8} {w : World} (h : Wt n0 A G c t acc w) (s : ByteArray) (hl : acc.length + s.size ≤ 140737488351232) :
    Calls Try.prog 40 #[.pointer (some ⟨G, 0, none⟩), .string s] w fun e w' => e = .returned (.tuple #[]) ∧ Wt n0 A G c t (acc ++ s.data.toList) w' ∧ Below n0 w w' :=
  (layO_any h.o s hl).mono fun _ _ h' => ⟨h'.1, h'.2.1.with (h'.2.2.2 _ _ _ h.ca) h.hA, h'.2.2.1⟩
theorem layNumberO_any {n0 G : Nat} {acc : List UInt8} {w : World} (h : WtO n0 G acc w) (n : Nat) (hn : n < 9223372036854775808) (hl : acc.length ≤ 100000000) :
    Calls Try.prog 24 #[.pointer (some ⟨G, 0, none⟩), .int .i64 (n : Int)] w fun e w' => e = .returned (.tuple #[]) ∧ WtO n0 G (acc ++ Pk.enc n) w' ∧ Below n0 w w' ∧ KeepC w w' := by
  have HH := hide h
  have hsz := h.szG
  have h10 := Pk.enc_ten (n := n) (by omega)
  clear h
  go_enter Try.func24, Try.ntmps24
  go_wp2_with fail
  refine (pnum_any n (by omega) _).mono ?_
  rintro e w1 ⟨rfl, hb⟩
  have H1 := hide (HH.out.below hb)
  have hS : (⟨(Pk.enc n).toArray⟩ : ByteArray).size = (Pk.enc n).length := by simp [ByteArray.size]
  have HL := hide (layO_any H1.out ⟨(Pk.enc n).toArray⟩ (by omega))
  have HB := hide (And.intro (hb.mono hsz) (keepC_below hb))
  clear HH hb H1
  go_wp2_with fail
  refine HL.out.mono ?_
  rintro e w2 ⟨rfl, h2, hb2, hk2⟩
  have HF := hide (And.intro h2 (And.intro (HB.out.1.trans hb2) (HB.out.2.trans hk2)))
  clear h2 hb2 hk2 HL HB
  go_wp2
  go_end0
  exact ⟨rfl, HF.out⟩
theorem layNumber_any {n0 A G : Nat} {c : Ch} {t : Value} {acc : List UInt8} {w : World} (h : Wt n0 A G c t acc w) (n : Nat) (hn : n < 9223372036854775808) (hl : acc.length ≤ 100000000) :
    Calls Try.prog 24 #[.pointer (some ⟨G, 0, none⟩), .int .i64 (n : Int)] w fun e w' => e = .returned (.tuple #[]) ∧ Wt n0 A G c t (acc ++ Pk.enc n) w' ∧ Below n0 w w' :=
  (layNumberO_any h.o n hn hl).mono fun _ _ h' => ⟨h'.1, h'.2.1.with (h'.2.2.2 _ _ _ h.ca) h.hA, h'.2.2.1⟩
end Go.Proofs.Ytjabnddjahhgoaa
