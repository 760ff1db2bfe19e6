import Derived.Test.YteiickpokabmoabWlH
namespace Go.Proofs.Yteiickpokabmoab
open Go.RowKit Go.Shelf
open Wl (Hd WS Log)

def zeroLog : Array Value := #[.int .u64 0, .int .u8 0, .int .i64 0, .int .i64 0, .string ⟨#[]⟩, .slice none 0 0]
def logC (h : Hd) (s : ByteArray) (v : Value) : Array Value := #[.int .u64 (h.num : Int), .int .u8 (h.half : Int), .int .i64 (h.sn : Int), .int .i64 (h.lg : Int), .string s, v]
def LPost (w : World) (x : Option Log) (e : Ending) (w' : World) : Prop :=
  Below w.heap.size w w' ∧ match x with
    | some L => ∃ v, e = .returned (.tuple #[.agg (logC L.h L.s v), .bool true]) ∧ w'.ownsRow w.heap.size 9 1 v L.l.length (L.l.map .string)
    | none => e = .returned (.tuple #[.agg zeroLog, .bool false])
theorem zbox {w0 w : World} {X : Nat} {cs : Array Value} {t : TypeId} (h : w0.heap[X]? = some (.cells cs t (0, 0))) (hb : Below w0.heap.size w0 w) : w.heap[X]? = some (.cells cs t (0, 0)) := (hb.block _ (lt_of_block h)).trans h
theorem log_cells {w : World} {X : Nat} {a b c d e f : Value} {t : TypeId} (h : w.heap[X]? = some (.cells #[a, b, c, d, e, f] t (0, 0))) : w.cell? ⟨X, 0, none⟩ = some a ∧ w.cell? ⟨X, 1, none⟩ = some b ∧ w.cell? ⟨X, 2, none⟩ = some c ∧ w.cell? ⟨X, 3, none⟩ = some d ∧ w.cell? ⟨X, 4, none⟩ = some e ∧ w.cell? ⟨X, 5, none⟩ = some f ∧ ∀ k, w.frozen? ⟨X, k, none⟩ = false := by
  refine ⟨?_, ?_, ?_, ?_, ?_, ?_, ?_⟩
  all_goals first | (unfold World.cell?; rw [h]; rfl) | (intro k; unfold World.frozen?; rw [h]; simp)
theorem parse_lt (s : ByteArray) : (Wl.parse s).num < 18446744073709551616 ∧ (Wl.parse s).half < 256 ∧ (Wl.parse s).sn < 4294967296 ∧ (Wl.parse s).lg < 4294967296 := by
  have h1 := bitsV_lt s 0
  have h2 := bitsV_lt (s.extract 9 s.size) 0
  refine ⟨h1, UInt8.toNat_lt _, ?_, ?_⟩
  · show bitsV (s.extract 9 s.size) 0 / 4294967296 < _; omega
  · show bitsV (s.extract 9 s.size) 0 % 4294967296 < _; omega
theorem logOf_not {S : List ByteArray} {k : Nat} (h : ¬ Wl.Front S k (Wl.parse (S.getD k ByteArray.empty))) : Wl.logOf S k = none := if_neg h
theorem logOf_yes {S : List ByteArray} {k : Nat} (h : Wl.Front S k (Wl.parse (S.getD k ByteArray.empty))) : Wl.logOf S k = (Wl.unframe ⟨((Wl.stands S (Wl.parse (S.getD k ByteArray.empty))).drop (Wl.parse (S.getD k ByteArray.empty)).sn).toArray⟩).map fun l => ⟨Wl.parse (S.getD k ByteArray.empty), ⟨((Wl.stands S (Wl.parse (S.getD k ByteArray.empty))).take (Wl.parse (S.getD k ByteArray.empty)).sn).toArray⟩, l⟩ := if_pos h
end Go.Proofs.Yteiickpokabmoab
