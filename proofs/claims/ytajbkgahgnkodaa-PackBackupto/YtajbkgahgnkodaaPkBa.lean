import Derived.Test.YtajbkgahgnkodaaPkU
import Derived.Test.YtajbkgahgnkodaaPkV
namespace Go.Proofs.Ytajbkgahgnkodaa
open Go.RowKit

theorem num_of {b : ByteArray} {p N r most above : Nat} {more : List UInt8} (h : rest b p = (Pk.enc N ++ more).take r) (hN : N < 18446744073709551616) (hm : N ≤ most) :
    ((Pk.enc N).length ≤ r → numK b p most above = 0 ∧ numV b p = N ∧ numQ b p = p + (Pk.enc N).length) ∧ (r < (Pk.enc N).length → numK b p most above = 20) := by
  constructor
  · intro hr
    have hD : Pk.dec 0 0 (rest b p) = (0, N, (Pk.enc N).length) := by
      rw [h, List.take_append, List.take_of_length_le hr, Pk.dec_enc N 0 0 _ (by decide) (by simpa using hN) (.inl rfl)]
      simp
    exact ⟨numK_ok hD hm, by unfold numV; rw [hD], by unfold numQ; rw [hD]⟩
  · intro hr
    have hD : Pk.dec 0 0 (rest b p) = (20, 0, 0) := by
      rw [h, List.take_append_of_le_length (by omega)]
      exact Pk.dec_cut N 0 0 r (by decide) (by simpa using hN) hr
    exact numK_bad hD (by decide)
theorem bits_of {b : ByteArray} {p N r : Nat} {more : List UInt8} (hp : p ≤ b.size) (h : rest b p = (Pk.big8 N ++ more).take r) (hN : N < 18446744073709551616) :
    (8 ≤ r → bitsK b p = 0 ∧ bitsV b p = N) ∧ (r < 8 → bitsK b p = 20) := by
  have hl := congrArg List.length h
  rw [rest_len, List.length_take, List.length_append, show (Pk.big8 N).length = 8 from rfl] at hl
  constructor
  · intro hr
    refine ⟨if_neg (by omega), ?_⟩
    unfold bitsV
    rw [h, List.take_take, show min 8 r = 8 by omega, List.take_left' (show (Pk.big8 N).length = 8 from rfl)]
    exact Pk.fold8_big8 N hN
  · intro hr
    exact if_pos (by omega)
theorem text_of {b S : ByteArray} {p r : Nat} {more : List UInt8} (hp : p ≤ b.size) (h : rest b p = (Pk.enc S.size ++ S.data.toList ++ more).take r) (hS : S.size ≤ 140737488351232) :
    ((Pk.enc S.size ++ S.data.toList).length ≤ r → textK b p S.size = 0 ∧ textV b p = S ∧ numQ b p + numV b p = p + (Pk.enc S.size ++ S.data.toList).length) ∧ (r < (Pk.enc S.size ++ S.data.toList).length → textK b p S.size = 20) := by
  have h' : rest b p = (Pk.enc S.size ++ (S.data.toList ++ more)).take r := by rw [h, List.append_assoc]
  have hN := num_of (most := S.size) (above := 23) h' (by omega) (Nat.le_refl _)
  have hl := congrArg List.length h
  have hSl : S.data.toList.length = S.size := rfl
  rw [rest_len, List.length_take, List.length_append, List.length_append, hSl] at hl
  rw [List.length_append, hSl]
  constructor
  · intro hr
    obtain ⟨k0, v0, q0⟩ := hN.1 (by omega)
    have hs : numQ b p + numV b p ≤ b.size := by rw [q0, v0]; omega
    refine ⟨?_, ?_, by rw [q0, v0]; omega⟩
    · unfold textK
      rw [k0, if_neg (by simp), if_neg (by omega)]
    · unfold textV
      rw [extract_eq, v0, q0]
      have e : rest b (p + (Pk.enc S.size).length) = ((S.data.toList ++ more)).take (r - (Pk.enc S.size).length) := by
        unfold rest at h' ⊢
        rw [← List.drop_drop, h', List.drop_take, List.drop_left' rfl]
      rw [e, List.take_take, show min S.size (r - (Pk.enc S.size).length) = S.size by omega, List.take_left' hSl]
  · intro hr
    by_cases h1 : r < (Pk.enc S.size).length
    · unfold textK
      rw [hN.2 h1, if_pos (by decide)]
    · obtain ⟨k0, v0, q0⟩ := hN.1 (by omega)
      unfold textK
      rw [k0, if_neg (by simp), v0, q0, if_pos (by omega)]

namespace Pk
/-- a thing's bytes -/
def lay (k : Int) (n : Nat) (s : ByteArray) : List UInt8 := if k = 1 then enc n else if k = 2 then big8 n else enc s.size ++ s.data.toList
/-- the bytes of the first things -/
def pre (K : Nat → Int) (N : Nat → Nat) (S : Nat → ByteArray) : Nat → List UInt8
  | 0 => []
  | i + 1 => pre K N S i ++ lay (K i) (N i) (S i)
theorem lay_len (k : Int) (n : Nat) (s : ByteArray) (hn : n < 18446744073709551616) (hs : s.size < 18446744073709551616) : (lay k n s).length ≤ s.size + 10 ∧ 1 ≤ (lay k n s).length := by
  have h1 := enc_ten hn
  have h2 := enc_ten hs
  have h3 := enc_pos n
  have h4 := enc_pos s.size
  have hSl : s.data.toList.length = s.size := rfl
  unfold lay
  split
  · omega
  · split
    · show (8 : Nat) ≤ _ ∧ 1 ≤ (8 : Nat); omega
    · rw [List.length_append, hSl]; omega
theorem pre_split (K : Nat → Int) (N : Nat → Nat) (S : Nat → ByteArray) (len : Nat) : ∀ i, i < len → ∃ more, pre K N S len = pre K N S i ++ (lay (K i) (N i) (S i) ++ more) := by
  induction len with
  | zero => intro i h; omega
  | succ len ih =>
    intro i h
    rcases Nat.lt_or_ge i len with h1 | h1
    · obtain ⟨more, hm⟩ := ih i h1
      exact ⟨more ++ lay (K len) (N len) (S len), by show pre K N S len ++ _ = _; rw [hm]; simp⟩
    · have : i = len := by omega
      subst this
      exact ⟨[], by show pre K N S i ++ _ = _; simp⟩
/-- the sum of the texts' lengths -/
def sumS (S : Nat → ByteArray) : Nat → Nat
  | 0 => 0
  | i + 1 => sumS S i + (S i).size
theorem pre_len (K : Nat → Int) (N : Nat → Nat) (S : Nat → ByteArray) (len : Nat) (hN : ∀ i, i < len → N i < 18446744073709551616) (hS : ∀ i, i < len → (S i).size < 18446744073709551616) : (pre K N S len).length ≤ sumS S len + 10 * len := by
  induction len with
  | zero => simp [pre]
  | succ len ih =>
    have h1 := ih (fun i hi => hN i (by omega)) (fun i hi => hS i (by omega))
    have h2 := (lay_len (K len) (N len) (S len) (hN len (by omega)) (hS len (by omega))).1
    show (pre K N S len ++ lay (K len) (N len) (S len)).length ≤ sumS S len + (S len).size + 10 * (len + 1)
    rw [List.length_append]; omega
theorem pre_mono (K : Nat → Int) (N : Nat → Nat) (S : Nat → ByteArray) {i j : Nat} (h : i ≤ j) : (pre K N S i).length ≤ (pre K N S j).length := by
  induction j with
  | zero => rw [show i = 0 by omega]; exact Nat.le_refl _
  | succ j ih =>
    rcases Nat.lt_or_ge i (j + 1) with h1 | h1
    · have := ih (by omega)
      show _ ≤ (pre K N S j ++ _).length
      rw [List.length_append]; omega
    · rw [show i = j + 1 by omega]; exact Nat.le_refl _
end Pk
/-- what stands from the next thing on, of bytes that are cut -/
theorem rest_cut {b : ByteArray} {c len i : Nat} {K : Nat → Int} {N : Nat → Nat} {S : Nat → ByteArray} (hb : b.data.toList = (Pk.pre K N S len).take c) (hi : i < len) :
    ∃ more, rest b (Pk.pre K N S i).length = (Pk.lay (K i) (N i) (S i) ++ more).take (c - (Pk.pre K N S i).length) := by
  obtain ⟨more, hm⟩ := Pk.pre_split K N S len i hi
  refine ⟨more, ?_⟩
  unfold rest
  rw [hb, hm, List.drop_take, List.drop_left' rfl]
end Go.Proofs.Ytajbkgahgnkodaa
