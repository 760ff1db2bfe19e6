import Derived.Test.YtapcmmljdpallaaPkP
import Derived.Lib.AppendStr
namespace Go.Proofs.Ytapcmmljdpallaa
open Go.RowKit

theorem take_add' (l : List UInt8) (p n : Nat) : l.take (p + n) = l.take p ++ (l.drop p).take n := by rw [List.take_add]
theorem numK_zero {b : ByteArray} {p most above : Nat} (ha : above ≠ 0) (h : numK b p most above = 0) : Pk.dec 0 0 (rest b p) = (0, numV b p, numQ b p - p) ∧ numV b p ≤ most ∧ p < numQ b p := by
  unfold numK at h
  by_cases h1 : (Pk.dec 0 0 (rest b p)).1 = 0
  · rw [if_neg (by simpa using h1)] at h
    have hD : Pk.dec 0 0 (rest b p) = (0, (Pk.dec 0 0 (rest b p)).2.1, (Pk.dec 0 0 (rest b p)).2.2) := Prod.ext h1 rfl
    obtain ⟨l1, l2⟩ := Pk.dec_le _ _ _ _ _ hD (by decide)
    have hmost : ¬ most < (Pk.dec 0 0 (rest b p)).2.1 := fun hh => by rw [if_pos hh] at h; exact ha h
    unfold numV numQ
    refine ⟨?_, by omega, by omega⟩
    rw [show p + (Pk.dec 0 0 (rest b p)).2.2 - p = (Pk.dec 0 0 (rest b p)).2.2 by omega]
    exact hD
  · rw [if_pos (by simpa using h1)] at h
    exact absurd h h1
/-- what is read of a number is its form -/
theorem num_form {b : ByteArray} {p most above : Nat} (hp : p ≤ b.size) (ha : above ≠ 0) (h : numK b p most above = 0) :
    numQ b p = p + (Pk.enc (numV b p)).length ∧ numQ b p ≤ b.size ∧ numV b p ≤ most ∧ numV b p < 18446744073709551616 ∧ b.data.toList.take (numQ b p) = b.data.toList.take p ++ Pk.enc (numV b p) := by
  obtain ⟨hD, hm, hq⟩ := numK_zero ha h
  obtain ⟨x, hx, hlt, hl, _, r, hr⟩ := Pk.dec_form _ _ _ _ _ (by decide) hD
  simp only [Nat.pow_zero, Nat.mul_one, Nat.zero_add] at hx hlt hl
  subst hx
  have hle := congrArg List.length hr
  rw [rest_len, List.length_append] at hle
  have hq' : numQ b p = p + (Pk.enc (numV b p)).length := by omega
  refine ⟨hq', by omega, hm, hlt, ?_⟩
  rw [hq', take_add']
  congr 1
  have : (b.data.toList.drop p) = Pk.enc (numV b p) ++ r := hr
  rw [this, List.take_left']
  rfl

namespace Pk
theorem big8_fold8 (l : List UInt8) (h : l.length = 8) : big8 (fold8 l) = l := by
  match l, h with
  | [a, b, c, d, e, f, g, i], _ =>
    have ha := a.toNat_lt; have hb := b.toNat_lt; have hc := c.toNat_lt; have hd := d.toNat_lt; have he := e.toNat_lt; have hf := f.toNat_lt; have hg := g.toNat_lt; have hi := i.toNat_lt
    have hx : fold8 [a, b, c, d, e, f, g, i] = ((((((a.toNat * 256 + b.toNat) * 256 + c.toNat) * 256 + d.toNat) * 256 + e.toNat) * 256 + f.toNat) * 256 + g.toNat) * 256 + i.toNat := by simp [fold8]
    have key : ∀ (x : Nat) (u : UInt8), x % 256 = u.toNat → UInt8.ofNat (x % 256) = u := fun x u hu => by rw [hu]; simp
    unfold big8
    rw [hx]
    congr 1
    · exact key _ _ (by omega)
    congr 1
    · exact key _ _ (by omega)
    congr 1
    · exact key _ _ (by omega)
    congr 1
    · exact key _ _ (by omega)
    congr 1
    · exact key _ _ (by omega)
    congr 1
    · exact key _ _ (by omega)
    congr 1
    · exact key _ _ (by omega)
    congr 1
    · exact key _ _ (by omega)
theorem fold8_big8 (n : Nat) (h : n < 18446744073709551616) : fold8 (big8 n) = n := by
  have e : ∀ x : Nat, (UInt8.ofNat (x % 256)).toNat = x % 256 := fun x => toNat_ofNat (Nat.mod_lt _ (by decide))
  simp only [fold8, big8, List.foldl_cons, List.foldl_nil, e]
  omega
end Pk
theorem bits_form {b : ByteArray} {p : Nat} (h : bitsK b p = 0) : p + 8 ≤ b.size ∧ bitsV b p < 18446744073709551616 ∧ (Pk.big8 (bitsV b p)).length = 8 ∧ b.data.toList.take (p + 8) = b.data.toList.take p ++ Pk.big8 (bitsV b p) := by
  have hs : p + 8 ≤ b.size := by
    unfold bitsK at h
    rcases Nat.lt_or_ge b.size (p + 8) with h1 | h1
    · rw [if_pos h1] at h; cases h
    · exact h1
  have hl : ((rest b p).take 8).length = 8 := by rw [List.length_take, rest_len]; omega
  refine ⟨hs, ?_, rfl, ?_⟩
  · have := Pk.fold8_lt ((rest b p).take 8) 8 (by omega)
    rw [List.take_of_length_le (by omega)] at this
    exact this
  · rw [take_add']
    congr 1
    unfold bitsV
    rw [Pk.big8_fold8 _ hl]
    rfl
theorem text_form {b : ByteArray} {p most : Nat} (hp : p ≤ b.size) (h : textK b p most = 0) :
    numQ b p + numV b p ≤ b.size ∧ (textV b p).size = numV b p ∧ (textV b p).size ≤ b.size ∧ numQ b p + numV b p = p + (Pk.enc (textV b p).size ++ (textV b p).data.toList).length ∧ b.data.toList.take (numQ b p + numV b p) = b.data.toList.take p ++ (Pk.enc (textV b p).size ++ (textV b p).data.toList) := by
  unfold textK at h
  by_cases h1 : numK b p most 23 = 0
  · rw [if_neg (by simpa using h1)] at h
    have hs : numQ b p + numV b p ≤ b.size := by
      rcases Nat.lt_or_ge b.size (numQ b p + numV b p) with h2 | h2
      · rw [if_pos h2] at h; cases h
      · exact h2
    obtain ⟨hq, hq2, _, _, hf⟩ := num_form hp (by decide) h1
    have hsz : (textV b p).size = numV b p := by unfold textV; exact extract_size b _ _ hs
    have hd : (textV b p).data.toList = (rest b (numQ b p)).take (numV b p) := by unfold textV; exact extract_list b _ _
    refine ⟨hs, hsz, by omega, ?_, ?_⟩
    · rw [hsz, hd, List.length_append, List.length_take, rest_len]; omega
    · rw [take_add', hf, hsz, hd, List.append_assoc]
      rfl
  · rw [if_pos h1] at h
    exact absurd h h1
/-- the first bytes of a string -/
theorem ext_take (b : ByteArray) (q : Nat) : b.extract 0 q = ⟨(b.data.toList.take q).toArray⟩ := by
  have := extract_eq b 0 q
  rw [Nat.zero_add] at this
  rw [this]; rfl
theorem own_pre {w : World} {base : Nat} {v : Value} {b : ByteArray} {q : Nat} (hq : q ≤ b.size) (h : w.ownsRow base 5 1 v q (bc (b.data.toList.take q))) : (convert 86 9 v).run Try.prog w = .ok (.string (b.extract 0 q)) w := by
  have hl : (b.data.toList.take q).length = q := by rw [List.length_take]; have : b.data.toList.length = b.size := rfl; omega
  rw [ext_take]
  refine own_str (base := base) ?_
  rw [hl]; exact h
theorem strCells_bc (s : ByteArray) : Lib.strCells s = bc s.data.toList := rfl
/-- a row that is owned and is not nil -/
theorem own_shape {w : World} {base e sz n : Nat} {v : Value} {xs : List Value} (h : w.ownsRow base e sz v n xs) (hn : v ≠ .slice none 0 0) : ∃ g cap, v = .slice (some ⟨g, 0, none⟩) n cap ∧ base ≤ g := by
  rcases h.2 with ⟨h1, _⟩ | ⟨g, cap, cur, h1, hb, _⟩
  · exact absurd h1 hn
  · exact ⟨g, cap, h1, hb⟩
end Go.Proofs.Ytapcmmljdpallaa
