import Derived.WalkKit

section
namespace Go.Proofs.YtkfnedhllfdghaaGreatDoor
set_option maxRecDepth 20000
namespace Pk

/-- a number's bytes -/
def enc (n : Nat) : List UInt8 := if n < 128 then [UInt8.ofNat n] else UInt8.ofNat (n % 128 + 128) :: enc (n / 128)
termination_by n
decreasing_by omega

theorem enc_lt {n : Nat} (h : n < 128) : enc n = [UInt8.ofNat n] := by rw [enc, if_pos h]
theorem enc_ge {n : Nat} (h : ¬ n < 128) : enc n = UInt8.ofNat (n % 128 + 128) :: enc (n / 128) := by rw [enc, if_neg h]
theorem enc_pos (n : Nat) : 1 ≤ (enc n).length := by
  by_cases h : n < 128
  · rw [enc_lt h]; simp
  · rw [enc_ge h]; simp

/-- the next number: (what is wrong (0: nothing), the number, how many bytes) -/
def dec : Nat → Nat → List UInt8 → Nat × Nat × Nat
  | i, _, [] => if i < 10 then (20, 0, 0) else (22, 0, 0)
  | i, acc, c :: l =>
    if i < 10 then
      if 128 ≤ c.toNat then dec (i + 1) (acc + (c.toNat % 128) * 128 ^ i) l
      else if (0 < i ∧ c.toNat = 0) ∨ (i = 9 ∧ 1 < c.toNat) then (22, 0, 0) else (0, acc + c.toNat * 128 ^ i, i + 1)
    else (22, 0, 0)

theorem toNat_ofNat {n : Nat} (h : n < 256) : (UInt8.ofNat n).toNat = n := by
  rw [UInt8.toNat_ofNat']; exact Nat.mod_eq_of_lt h

theorem p9 : (128 : Nat) ^ 9 = 9223372036854775808 := by decide
theorem pow_le {i : Nat} (h : 10 ≤ i) : 1180591620717411303424 ≤ 128 ^ i := by
  have : (128 : Nat) ^ 10 ≤ 128 ^ i := Nat.pow_le_pow_right (by decide) h
  have e : (128 : Nat) ^ 10 = 1180591620717411303424 := by decide
  omega
theorem lt10 {n i : Nat} (hn : 0 < n) (h : n * 128 ^ i < 18446744073709551616) : i < 10 := by
  rcases Nat.lt_or_ge i 10 with h1 | h1
  · exact h1
  · have := pow_le h1
    have : 1 * 1180591620717411303424 ≤ n * 128 ^ i := Nat.mul_le_mul hn this
    omega

theorem dec_enc (n : Nat) : ∀ (i acc : Nat) (rest : List UInt8), i < 10 → n * 128 ^ i < 18446744073709551616 → (i = 0 ∨ 0 < n) →
    dec i acc (enc n ++ rest) = (0, acc + n * 128 ^ i, i + (enc n).length) := by
  induction n using Nat.strongRecOn with
  | ind n ih =>
    intro i acc rest hi hn h0
    by_cases h : n < 128
    · rw [enc_lt h]
      have e : (UInt8.ofNat n).toNat = n := toNat_ofNat (by omega)
      have hno : ¬ ((0 < i ∧ n = 0) ∨ (i = 9 ∧ 1 < n)) := by
        rintro (⟨h1, h2⟩ | ⟨h1, h2⟩)
        · omega
        · subst h1; rw [p9] at hn; omega
      simp only [List.singleton_append, dec, if_pos hi, e]
      rw [if_neg (by omega), if_neg hno]
      simp
    · rw [enc_ge h]
      have e : (UInt8.ofNat (n % 128 + 128)).toNat = n % 128 + 128 := toNat_ofNat (by omega)
      simp only [List.cons_append, dec, if_pos hi, e]
      rw [if_pos (by omega)]
      have e2 : (n % 128 + 128) % 128 = n % 128 := by omega
      rw [e2]
      have hs : 128 ^ (i + 1) = 128 * 128 ^ i := by rw [Nat.pow_succ, Nat.mul_comm]
      have hm : n / 128 * 128 ^ (i + 1) + n % 128 * 128 ^ i = n * 128 ^ i := by
        rw [hs, ← Nat.mul_assoc, ← Nat.add_mul]; congr 1; omega
      have hlt : n / 128 * 128 ^ (i + 1) < 18446744073709551616 := by omega
      have h1 : i + 1 < 10 := lt10 (n := n / 128) (by omega) hlt
      rw [ih (n / 128) (by omega) (i + 1) _ rest h1 hlt (.inr (by omega))]
      simp only [List.length_cons, Prod.mk.injEq, true_and]
      constructor <;> omega

theorem dec_cut (n : Nat) : ∀ (i acc k : Nat), i < 10 → n * 128 ^ i < 18446744073709551616 → k < (enc n).length → dec i acc ((enc n).take k) = (20, 0, 0) := by
  induction n using Nat.strongRecOn with
  | ind n ih =>
    intro i acc k hi hn hk
    by_cases h : n < 128
    · rw [enc_lt h] at hk ⊢
      simp at hk; subst hk
      simp [dec, hi]
    · rw [enc_ge h] at hk ⊢
      cases k with
      | zero => simp [dec, hi]
      | succ k =>
        simp only [List.length_cons] at hk
        have e : (UInt8.ofNat (n % 128 + 128)).toNat = n % 128 + 128 := toNat_ofNat (by omega)
        simp only [List.take_succ_cons, dec, if_pos hi, e]
        rw [if_pos (by omega)]
        have hs : 128 ^ (i + 1) = 128 * 128 ^ i := by rw [Nat.pow_succ, Nat.mul_comm]
        have hm : n / 128 * 128 ^ (i + 1) + n % 128 * 128 ^ i = n * 128 ^ i := by
          rw [hs, ← Nat.mul_assoc, ← Nat.add_mul]; congr 1; omega
        have hlt : n / 128 * 128 ^ (i + 1) < 18446744073709551616 := by omega
        exact ih (n / 128) (by omega) (i + 1) _ k (lt10 (n := n / 128) (by omega) hlt) hlt (by omega)

/-- what is read is what was laid -/
theorem dec_form (l : List UInt8) : ∀ (i acc n m : Nat), i < 10 → dec i acc l = (0, n, m) →
    ∃ x, n = acc + x * 128 ^ i ∧ x * 128 ^ i < 18446744073709551616 ∧ m = i + (enc x).length ∧ (i = 0 ∨ 0 < x) ∧ ∃ rest, l = enc x ++ rest := by
  induction l with
  | nil => intro i acc n m hi h; simp [dec, hi] at h
  | cons c l ih =>
    intro i acc n m hi h
    simp only [dec, if_pos hi] at h
    have hc : c.toNat < 256 := c.toNat_lt
    by_cases h1 : 128 ≤ c.toNat
    · rw [if_pos h1] at h
      by_cases h2 : i + 1 < 10
      · obtain ⟨x, hx, hlt, hm, h0, rest, hl⟩ := ih (i + 1) _ n m h2 h
        have hs : 128 ^ (i + 1) = 128 * 128 ^ i := by rw [Nat.pow_succ, Nat.mul_comm]
        have hxp : 0 < x := by omega
        refine ⟨x * 128 + c.toNat % 128, ?_, ?_, ?_, .inr (by omega), rest, ?_⟩
        · rw [hx, hs, Nat.add_mul]
          rw [show x * (128 * 128 ^ i) = x * 128 * 128 ^ i by rw [Nat.mul_assoc]]
          omega
        · rw [hs] at hlt
          rw [show x * (128 * 128 ^ i) = x * 128 * 128 ^ i by rw [Nat.mul_assoc]] at hlt
          have hi8 : i ≤ 8 := by omega
          have hp : 128 ^ i ≤ 72057594037927936 := by
            have : (128 : Nat) ^ i ≤ 128 ^ 8 := Nat.pow_le_pow_right (by decide) hi8
            have e : (128 : Nat) ^ 8 = 72057594037927936 := by decide
            omega
          have hd : 128 ^ i ∣ 18446744073709551616 := by
            have : (18446744073709551616 : Nat) = 2 ^ 64 := by decide
            rw [this, show (128 : Nat) = 2 ^ 7 by decide, ← Nat.pow_mul]
            exact Nat.pow_dvd_pow 2 (by omega)
          obtain ⟨q, hq⟩ := hd
          have hpos : 0 < 128 ^ i := Nat.pow_pos (by decide)
          have hq7 : 128 ∣ q := by
            have e : (18446744073709551616 : Nat) = 128 ^ (i + 1) * 2 ^ (57 - 7 * i) := by
              rw [show (128 : Nat) = 2 ^ 7 by decide, ← Nat.pow_mul, ← Nat.pow_add]
              rw [show 7 * (i + 1) + (57 - 7 * i) = 64 by omega]
            rw [e, hs] at hq
            refine ⟨2 ^ (57 - 7 * i), ?_⟩
            have : 128 ^ i * (128 * 2 ^ (57 - 7 * i)) = 128 ^ i * q := by rw [← hq]; ac_rfl
            exact (Nat.eq_of_mul_eq_mul_left hpos this).symm
          obtain ⟨q2, rfl⟩ := hq7
          have h3 : x * 128 < 128 * q2 := by
            rw [hq] at hlt
            have : x * 128 * 128 ^ i < (128 * q2) * 128 ^ i := by rw [Nat.mul_comm (128 * q2)]; exact hlt
            exact Nat.lt_of_mul_lt_mul_right this
          rw [hq, Nat.mul_comm (128 ^ i)]
          exact Nat.mul_lt_mul_of_pos_right (by omega) hpos
        · rw [enc_ge (n := x * 128 + c.toNat % 128) (by omega), show (x * 128 + c.toNat % 128) / 128 = x by omega, List.length_cons]; omega
        · rw [enc_ge (n := x * 128 + c.toNat % 128) (by omega), show (x * 128 + c.toNat % 128) / 128 = x by omega, hl, List.cons_append]
          congr 1
          apply UInt8.toNat_inj.1
          rw [toNat_ofNat (by omega)]; omega
      · exfalso
        have : i + 1 = 10 := by omega
        rw [this] at h
        cases l <;> simp [dec] at h
    · rw [if_neg h1] at h
      by_cases h2 : (0 < i ∧ c.toNat = 0) ∨ (i = 9 ∧ 1 < c.toNat)
      · rw [if_pos h2] at h; simp at h
      · rw [if_neg h2] at h
        simp only [Prod.mk.injEq, true_and] at h
        obtain ⟨rfl, rfl⟩ := h
        have he : enc c.toNat = [c] := by rw [enc_lt (by omega)]; simp
        refine ⟨c.toNat, rfl, ?_, by rw [he]; rfl, by omega, l, by rw [he]; rfl⟩
        have hi9 : i ≤ 8 ∨ i = 9 := by omega
        rcases hi9 with h9 | h9
        · have : (128 : Nat) ^ i ≤ 128 ^ 8 := Nat.pow_le_pow_right (by decide) h9
          have e : (128 : Nat) ^ 8 = 72057594037927936 := by decide
          have : c.toNat * 128 ^ i ≤ 127 * 72057594037927936 := Nat.mul_le_mul (by omega) (by omega)
          omega
        · subst h9
          rw [p9]; omega

theorem dec_err (l : List UInt8) : ∀ (i acc : Nat), (dec i acc l).1 = 0 ∨ dec i acc l = (20, 0, 0) ∨ dec i acc l = (22, 0, 0) := by
  induction l with
  | nil => intro i acc; simp only [dec]; split <;> simp
  | cons c l ih =>
    intro i acc
    simp only [dec]
    split
    · split
      · exact ih _ _
      · split <;> simp
    · simp
theorem dec_le (l : List UInt8) : ∀ (i acc n m : Nat), dec i acc l = (0, n, m) → i < 10 → i + 1 ≤ m ∧ m ≤ i + l.length := by
  intro i acc n m h hi
  obtain ⟨x, _, _, hm, _, rest, hl⟩ := dec_form l i acc n m hi h
  have := enc_pos x
  rw [hl, List.length_append]
  omega
theorem dec_lt (l : List UInt8) (n m : Nat) (h : dec 0 0 l = (0, n, m)) : n < 18446744073709551616 := by
  obtain ⟨x, hn, hlt, _⟩ := dec_form l 0 0 n m (by decide) h
  simp at hn hlt; omega
end Pk
end Go.Proofs.YtkfnedhllfdghaaGreatDoor
end

section
namespace Go.Proofs.YtkfnedhllfdghaaGreatDoor
set_option maxRecDepth 20000
open Go.RowKit

/-- an op, its word, its fields' letters -/
structure Sh where
  op : Int
  word : ByteArray
  flds : ByteArray
instance : Inhabited Sh := ⟨⟨0, ⟨#[]⟩, ⟨#[]⟩⟩⟩
def Sh.cs (s : Sh) : List Value := [.int .i64 s.op, .string s.word, .string s.flds]
namespace Pg
def tbl : List Sh := [
  ⟨1, ⟨#[115, 101, 116]⟩, ⟨#[65, 75]⟩⟩,
  ⟨2, ⟨#[109, 111, 118, 101]⟩, ⟨#[65, 66]⟩⟩,
  ⟨3, ⟨#[97, 100, 100]⟩, ⟨#[65, 66, 67]⟩⟩,
  ⟨4, ⟨#[115, 117, 98]⟩, ⟨#[65, 66, 67]⟩⟩,
  ⟨5, ⟨#[109, 117, 108]⟩, ⟨#[65, 66, 67]⟩⟩,
  ⟨6, ⟨#[100, 105, 118]⟩, ⟨#[65, 66, 67]⟩⟩,
  ⟨7, ⟨#[109, 105, 110]⟩, ⟨#[65, 66, 67]⟩⟩,
  ⟨8, ⟨#[109, 97, 120]⟩, ⟨#[65, 66, 67]⟩⟩,
  ⟨9, ⟨#[108, 101, 115, 115]⟩, ⟨#[65, 66, 67]⟩⟩,
  ⟨10, ⟨#[111, 114, 100, 101, 114]⟩, ⟨#[65, 66, 67]⟩⟩,
  ⟨11, ⟨#[110, 101, 103]⟩, ⟨#[65, 66]⟩⟩,
  ⟨12, ⟨#[97, 98, 115]⟩, ⟨#[65, 66]⟩⟩,
  ⟨13, ⟨#[102, 108, 111, 111, 114]⟩, ⟨#[65, 66]⟩⟩,
  ⟨14, ⟨#[106, 117, 109, 112]⟩, ⟨#[78]⟩⟩,
  ⟨15, ⟨#[105, 102]⟩, ⟨#[65, 78]⟩⟩,
  ⟨16, ⟨#[103, 111, 116, 111]⟩, ⟨#[65]⟩⟩,
  ⟨17, ⟨#[99, 97, 108, 108]⟩, ⟨#[78]⟩⟩,
  ⟨18, ⟨#[114, 101, 116]⟩, ⟨#[]⟩⟩,
  ⟨19, ⟨#[112, 117, 115, 104]⟩, ⟨#[65]⟩⟩,
  ⟨20, ⟨#[112, 111, 112]⟩, ⟨#[65]⟩⟩,
  ⟨21, ⟨#[101, 109, 105, 116]⟩, ⟨#[65]⟩⟩,
  ⟨22, ⟨#[119, 114, 105, 116, 101]⟩, ⟨#[65]⟩⟩,
  ⟨23, ⟨#[102, 97, 105, 108]⟩, ⟨#[65]⟩⟩,
  ⟨24, ⟨#[104, 97, 108, 116]⟩, ⟨#[]⟩⟩]
/-- the first one that fits -/
def find (p : Sh → Bool) : Sh × Bool := match tbl.findIdx? p with
  | some k => (tbl[k]!, true)
  | none => (default, false)
def shape (op : Int) : Sh × Bool := find (fun s => s.op == op)
def named (word : ByteArray) : Sh × Bool := find (fun s => s.word.toList == word.toList)
end Pg

theorem flat_get {α : Type} [Inhabited α] (f : α → List Value) (k : Nat) (hk : ∀ x, (f x).length = k) : ∀ (l : List α) (j i : Nat), j < l.length → i < k → (l.flatMap f)[j * k + i]? = (f l[j]!)[i]?
  | [], _, _, hj, _ => absurd hj (Nat.not_lt_zero _)
  | x :: r, 0, i, _, hi => by
    rw [List.flatMap_cons, List.getElem?_append_left (by rw [hk]; omega)]
    simp
  | x :: r, j + 1, i, hj, hi => by
    rw [List.flatMap_cons, List.getElem?_append_right (by rw [hk, Nat.add_mul]; omega), hk, show (j + 1) * k + i - k = j * k + i by rw [Nat.add_mul]; omega, flat_get f k hk r j i (by simpa using hj) hi]
    simp

/-- an instruction -/
structure In where
  op : Int
  a : Int
  b : Int
  c : Int
  n : Int
  k : Nat
  deriving DecidableEq
instance : Inhabited In := ⟨⟨0, 0, 0, 0, 0, 0⟩⟩
def In.cs (x : In) : List Value := [.int .i64 x.op, .int .i64 x.a, .int .i64 x.b, .int .i64 x.c, .int .i64 x.n, .int .u64 (x.k : Int)]
/-- its numbers are of their kinds -/
structure In.Fits (x : In) : Prop where
  op : -9223372036854775808 ≤ x.op ∧ x.op ≤ 9223372036854775807
  a : -9223372036854775808 ≤ x.a ∧ x.a ≤ 9223372036854775807
  b : -9223372036854775808 ≤ x.b ∧ x.b ≤ 9223372036854775807
  c : -9223372036854775808 ≤ x.c ∧ x.c ≤ 9223372036854775807
  n : -9223372036854775808 ≤ x.n ∧ x.n ≤ 9223372036854775807
  k : x.k < 18446744073709551616
namespace Pg
/-- a number as one without a sign -/
def un (i : Int) : Nat := (i % 18446744073709551616).toNat
def get (x : In) (l : Nat) : Nat := if l = 65 then un x.a else if l = 66 then un x.b else if l = 67 then un x.c else if l = 78 then un x.n else x.k
end Pg
end Go.Proofs.YtkfnedhllfdghaaGreatDoor
end
