import Derived.Test.YteiickpokabmoabWlIa
import Derived.Test.YteiickpokabmoabWlIb
import Derived.Test.YteiickpokabmoabWlIc
import Derived.Test.YteiickpokabmoabWlId
namespace Go.Proofs.Yteiickpokabmoab
open Go.RowKit Go.Shelf
open Wl (Hd WS Log)

theorem logOf_any {base : Nat} {w : World} {b : Nat} {F : Nat → Prop} {d : D.DS} (h : D.Dk base w b F d) (hd : d.dead = false) (hfit : Wl.Fits d.S.length) (k : Nat) (hk : k < 2) :
    Calls Try.prog 43 #[.pointer (some ⟨b, 0, none⟩), .int .i64 (k : Int)] w (LPost w (Wl.logOf d.S k)) := by
  by_cases hm : Wl.MayBe (Wl.parse (d.S.getD k ByteArray.empty)) (Wl.hb d.S.length)
  · by_cases hs : (Wl.parse (d.S.getD k ByteArray.empty)).num % 2 = k
    · by_cases hb : Wl.headB (Wl.parse (d.S.getD k ByteArray.empty)) = d.S.getD k ByteArray.empty
      · exact logOf_D h hd hfit k hk hm hs hb
      · exact logOf_C h hd hfit k hk hm hs hb
    · exact logOf_B h hd hfit k hk hm hs
  · exact logOf_A h hd hfit k hk hm
/-- the best log so far, in memory -/
def Best (B Q : Nat) (x : Option Log) (w : World) : Prop :=
  match x with
  | none => w.heap[Q]? = some (.cells zeroLog 63 (0, 0))
  | some L => ∃ v, w.heap[Q]? = some (.cells (logC L.h L.s v) 63 (0, 0)) ∧ w.ownsRow B 9 1 v L.l.length (L.l.map .string) ∧ v.ownBlock ≠ some Q
def numO : Option Log → Nat
  | none => 0
  | some L => L.h.num
def eO : Option Log → Int
  | none => 90
  | some _ => 0
theorem Best.below {B Q : Nat} {x : Option Log} {w w' : World} (h : Best B Q x w) (hb : Below w.heap.size w w') : Best B Q x w' := by
  cases x with
  | none => exact box_bl h hb
  | some L =>
    obtain ⟨v, h1, h2, h3⟩ := h
    exact ⟨v, box_bl h1 hb, D.own_keep h2 fun k hk => hb.block k (own_lo h2 hk).2, h3⟩
theorem logOf_num {S : List ByteArray} {k : Nat} {L : Log} (h : Wl.logOf S k = some L) : 1 ≤ L.h.num ∧ L.h.num < 18446744073709551616 := by
  unfold Wl.logOf at h
  split at h
  · rename_i hf
    obtain ⟨l, _, rfl⟩ := Option.map_eq_some_iff.1 h
    have := hf.1
    exact ⟨this.1, Nat.lt_of_le_of_lt this.2.1 (by decide)⟩
  · cases h
def FPs (w : World) (x : Option Log) (e : Ending) (w' : World) : Prop :=
  Below w.heap.size w w' ∧ match x with
    | some L => ∃ ad cp, e = .returned (.tuple #[.agg (logC L.h L.s (.slice ad L.l.length cp)), .int .i64 0]) ∧ w'.ownsRow w.heap.size 9 1 (.slice ad L.l.length cp) L.l.length (L.l.map .string)
    | none => e = .returned (.tuple #[.agg zeroLog, .int .i64 90])
/-- the best of the first k -/
def bestN (S : List ByteArray) : Nat → Option Log
  | 0 => none
  | k + 1 => match Wl.logOf S k with
    | none => bestN S k
    | some L => if numO (bestN S k) < L.h.num then some L else bestN S k
theorem bestN_two (S : List ByteArray) : bestN S 2 = Wl.find S := by
  have e1 : bestN S 1 = Wl.logOf S 0 := by
    show (match Wl.logOf S 0 with | none => none | some L => if 0 < L.h.num then some L else none) = _
    cases h0 : Wl.logOf S 0 with
    | none => rfl
    | some L0 => exact if_pos (by have := (logOf_num h0).1; omega)
  show (match Wl.logOf S 1 with | none => bestN S 1 | some L => if numO (bestN S 1) < L.h.num then some L else bestN S 1) = _
  rw [e1]
  unfold Wl.find
  cases h1 : Wl.logOf S 1 with
  | none => cases Wl.logOf S 0 <;> rfl
  | some L =>
    cases h0 : Wl.logOf S 0 with
    | none => exact if_pos (by have := (logOf_num h1).1; show 0 < _; omega)
    | some L0 => rfl
theorem bestN_num (S : List ByteArray) (k : Nat) : numO (bestN S k) < 18446744073709551616 := by
  induction k with
  | zero => show 0 < _; decide
  | succ k ih =>
    simp only [bestN]
    cases h : Wl.logOf S k with
    | none => exact ih
    | some L =>
      simp only
      split
      · exact (logOf_num h).2
      · exact ih
theorem find_dead {base : Nat} {w : World} {b : Nat} {F : Nat → Prop} {d : D.DS} (h : D.Dk base w b F d) (hd : d.dead = true) :
    Calls Try.prog 29 #[.pointer (some ⟨b, 0, none⟩)] w fun e w' => Below w.heap.size w w' ∧ e = .returned (.tuple #[.agg zeroLog, .int .i64 2]) := by
  have HDd := hide (D.dead_any (h.alloc (.cells zeroLog 63)))
  rw [hd] at HDd
  clear h
  unfold zeroLog at *
  go_enter Try.func29, Try.ntmps29
  go_wp2_with fail
  refine HDd.out.mono ?_
  rintro e w' ⟨rfl, rfl⟩
  go_wp2_with fail
  exact bodyPost_ret (v := .tuple #[.agg zeroLog, .int .i64 2]) (by simp [results, Try.results29, go_sem, zeroLog]) rfl ⟨below_alloc w _, rfl⟩
end Go.Proofs.Yteiickpokabmoab
