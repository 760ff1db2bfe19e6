import Derived.WalkKit

section
namespace Go.Proofs.YthjngodkpldpfaaGreatDoor
open Go.RowKit

/-- an op, its word, its fields' letters -/
structure Sh where
  op : Int
  word : ByteArray
  flds : ByteArray
instance : Inhabited Sh := ⟨⟨0, ⟨#[]⟩, ⟨#[]⟩⟩⟩
def Sh.cs (s : Sh) : List Value := [.int .i64 s.op, .string s.word, .string s.flds]
namespace Pg
def tbl : List Sh := [
  ⟨1, ⟨#[115, 101, 116]⟩, ⟨#[65, 75]⟩⟩,
  ⟨2, ⟨#[109, 111, 118, 101]⟩, ⟨#[65, 66]⟩⟩,
  ⟨3, ⟨#[97, 100, 100]⟩, ⟨#[65, 66, 67]⟩⟩,
  ⟨4, ⟨#[115, 117, 98]⟩, ⟨#[65, 66, 67]⟩⟩,
  ⟨5, ⟨#[109, 117, 108]⟩, ⟨#[65, 66, 67]⟩⟩,
  ⟨6, ⟨#[100, 105, 118]⟩, ⟨#[65, 66, 67]⟩⟩,
  ⟨7, ⟨#[109, 105, 110]⟩, ⟨#[65, 66, 67]⟩⟩,
  ⟨8, ⟨#[109, 97, 120]⟩, ⟨#[65, 66, 67]⟩⟩,
  ⟨9, ⟨#[108, 101, 115, 115]⟩, ⟨#[65, 66, 67]⟩⟩,
  ⟨10, ⟨#[111, 114, 100, 101, 114]⟩, ⟨#[65, 66, 67]⟩⟩,
  ⟨11, ⟨#[110, 101, 103]⟩, ⟨#[65, 66]⟩⟩,
  ⟨12, ⟨#[97, 98, 115]⟩, ⟨#[65, 66]⟩⟩,
  ⟨13, ⟨#[102, 108, 111, 111, 114]⟩, ⟨#[65, 66]⟩⟩,
  ⟨14, ⟨#[106, 117, 109, 112]⟩, ⟨#[78]⟩⟩,
  ⟨15, ⟨#[105, 102]⟩, ⟨#[65, 78]⟩⟩,
  ⟨16, ⟨#[103, 111, 116, 111]⟩, ⟨#[65]⟩⟩,
  ⟨17, ⟨#[99, 97, 108, 108]⟩, ⟨#[78]⟩⟩,
  ⟨18, ⟨#[114, 101, 116]⟩, ⟨#[]⟩⟩,
  ⟨19, ⟨#[112, 117, 115, 104]⟩, ⟨#[65]⟩⟩,
  ⟨20, ⟨#[112, 111, 112]⟩, ⟨#[65]⟩⟩,
  ⟨21, ⟨#[101, 109, 105, 116]⟩, ⟨#[65]⟩⟩,
  ⟨22, ⟨#[119, 114, 105, 116, 101]⟩, ⟨#[65]⟩⟩,
  ⟨23, ⟨#[102, 97, 105, 108]⟩, ⟨#[65]⟩⟩,
  ⟨24, ⟨#[104, 97, 108, 116]⟩, ⟨#[]⟩⟩]
/-- the first one that fits -/
def find (p : Sh → Bool) : Sh × Bool := match tbl.findIdx? p with
  | some k => (tbl[k]!, true)
  | none => (default, false)
def shape (op : Int) : Sh × Bool := find (fun s => s.op == op)
def named (word : ByteArray) : Sh × Bool := find (fun s => s.word.toList == word.toList)
end Pg

theorem flat_get {α : Type} [Inhabited α] (f : α → List Value) (k : Nat) (hk : ∀ x, (f x).length = k) : ∀ (l : List α) (j i : Nat), j < l.length → i < k → (l.flatMap f)[j * k + i]? = (f l[j]!)[i]?
  | [], _, _, hj, _ => absurd hj (Nat.not_lt_zero _)
  | x :: r, 0, i, _, hi => by
    rw [List.flatMap_cons, List.getElem?_append_left (by rw [hk]; omega)]
    simp
  | x :: r, j + 1, i, hj, hi => by
    rw [List.flatMap_cons, List.getElem?_append_right (by rw [hk, Nat.add_mul]; omega), hk, show (j + 1) * k + i - k = j * k + i by rw [Nat.add_mul]; omega, flat_get f k hk r j i (by simpa using hj) hi]
    simp

/-- an instruction -/
structure In where
  op : Int
  a : Int
  b : Int
  c : Int
  n : Int
  k : Nat
  deriving DecidableEq
instance : Inhabited In := ⟨⟨0, 0, 0, 0, 0, 0⟩⟩
def In.cs (x : In) : List Value := [.int .i64 x.op, .int .i64 x.a, .int .i64 x.b, .int .i64 x.c, .int .i64 x.n, .int .u64 (x.k : Int)]
/-- its numbers are of their kinds -/
structure In.Fits (x : In) : Prop where
  op : -9223372036854775808 ≤ x.op ∧ x.op ≤ 9223372036854775807
  a : -9223372036854775808 ≤ x.a ∧ x.a ≤ 9223372036854775807
  b : -9223372036854775808 ≤ x.b ∧ x.b ≤ 9223372036854775807
  c : -9223372036854775808 ≤ x.c ∧ x.c ≤ 9223372036854775807
  n : -9223372036854775808 ≤ x.n ∧ x.n ≤ 9223372036854775807
  k : x.k < 18446744073709551616
namespace Pg
/-- a number as one without a sign -/
def un (i : Int) : Nat := (i % 18446744073709551616).toNat
def get (x : In) (l : Nat) : Nat := if l = 65 then un x.a else if l = 66 then un x.b else if l = 67 then un x.c else if l = 78 then un x.n else x.k
end Pg
end Go.Proofs.YthjngodkpldpfaaGreatDoor
end
