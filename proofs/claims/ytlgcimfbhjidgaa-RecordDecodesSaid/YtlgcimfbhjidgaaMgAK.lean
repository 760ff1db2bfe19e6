import Derived.Test.YtlgcimfbhjidgaaMgAJ
import Derived.Test.YtlgcimfbhjidgaaMgAI

section
namespace Go.Proofs.Ytlgcimfbhjidgaa
namespace Rc
open Wr (rest_next rest_in)
/-- what is laid is read -/
theorem rN_at {b : ByteArray} {lo hi p N : Nat} {more : List UInt8} (h : rest b p = Pk.enc N ++ more) (h1 : lo ≤ N) (h2 : N ≤ hi) (hl : hi < 18446744073709551616) : rN b lo hi p = some (N, p + (Pk.enc N).length) := by
  obtain ⟨k0, v0, q0⟩ := num_at (most := hi) (above := 21) h (by omega) h2
  unfold rN; rw [if_pos ⟨k0, by rw [v0]; exact h1⟩, v0, q0]
theorem rT_at {b S : ByteArray} {lo hi p : Nat} {more : List UInt8} (hp : p ≤ b.size) (h : rest b p = (Pk.enc S.size ++ S.data.toList) ++ more) (h1 : lo ≤ S.size) (h2 : S.size ≤ hi) (hl : hi ≤ 140737488351232) :
    rT b lo hi p = some (S, p + (Pk.enc S.size ++ S.data.toList).length) := by
  obtain ⟨k0, v0, q0⟩ := text_at (most := hi) hp h h2 (by omega)
  unfold rT; rw [if_pos ⟨k0, by rw [v0]; exact h1⟩, v0, q0]
theorem rTs_at {b : ByteArray} {more : List UInt8} (l : List ByteArray) : ∀ p, p ≤ b.size → rest b p = layT l ++ more → (∀ t ∈ l, t.size ≤ 32) → rTs b l.length p = some (l, p + (layT l).length) := by
  induction l with
  | nil => intro p _ _ _; simp [rTs, layT]
  | cons t l ih =>
    intro p hp h hs
    have hb : layT (t :: l) = (Pk.enc t.size ++ t.data.toList) ++ layT l := by simp [layT]
    rw [hb, List.append_assoc] at h
    rw [List.length_cons, rTs, rT_at hp h (Nat.zero_le _) (hs t List.mem_cons_self) (by decide)]
    rw [Option.bind_some, ih _ (rest_in hp h) (rest_next h) fun x hx => hs x (List.mem_cons_of_mem _ hx)]
    simp only [Option.map_some, hb, List.length_append]
    congr 2; omega
theorem may_num {l : L} {v : V} (h : may l v = true) : (least l : Int) ≤ sz l v ∧ sz l v ≤ (most l : Int) := by
  unfold may at h; simp only [Bool.and_eq_true, decide_eq_true_eq] at h; exact h.1.1
theorem rF_at {b : ByteArray} {l : L} {v : V} {p : Nat} {more : List UInt8} (hp : p ≤ b.size) (h : rest b p = lay l v ++ more) (hm : may l v = true) (hv : nrm l v = v) (hn : v.n < 18446744073709551616) :
    rF b l p = some (v, p + (lay l v).length) := by
  have hmn := may_num hm
  cases l
  case R =>
    have h' : rest b p = Pk.enc v.i.toNat ++ (Pk.big8 v.n ++ more) := by rw [h]; simp [lay]
    simp only [sz, least, most] at hmn
    obtain ⟨k0, v0⟩ := bits_at (rest_in hp h') (rest_next h') hn
    have hm2 : v.i = 0 ∨ v.n = 0 := by
      unfold may at hm; simp only [Bool.and_eq_true, decide_eq_true_eq, Bool.or_eq_true] at hm
      rcases hm.1.2 with h | h
      · exact absurd rfl h
      · exact h
    simp only [rF, rN_at (lo := 0) (hi := 7) h' (Nat.zero_le _) (by omega) (by decide), Option.bind_some, rB]
    rw [if_pos ⟨k0, by rw [v0]; omega⟩, v0]
    simp only [Option.map_some, lay, List.length_append, show (Pk.big8 v.n).length = 8 from rfl]
    rw [← hv]; simp [nrm, Int.toNat_of_nonneg hmn.1]; omega
  case P =>
    simp only [sz, least, most] at hmn
    have h' : rest b p = (Pk.enc v.t.size ++ v.t.data.toList) ++ more := h
    simp only [rF, rT_at (lo := 1) (hi := 1024) hp h' (by omega) (by omega) (by decide), Option.map_some, lay]
    rw [← hv]; rfl
  case T =>
    simp only [sz, least, most] at hmn
    have h' : rest b p = Pk.enc v.l.length ++ (layT v.l ++ more) := by rw [h]; simp [lay]
    have hm2 : ∀ t ∈ v.l, t.size ≤ 32 := by
      unfold may at hm; simp only [Bool.and_eq_true, decide_eq_true_eq, Bool.or_eq_true] at hm
      rcases hm.2 with h | h
      · exact absurd rfl h
      · simpa using h
    simp only [rF, rN_at (lo := 1) (hi := 8) h' (by omega) (by omega) (by decide), Option.bind_some, rTs_at v.l _ (rest_in hp h') (rest_next h') hm2, Option.map_some, lay, List.length_append]
    rw [← hv]; simp [nrm]; omega
  all_goals
    simp only [sz, least, most] at hmn
    simp only [rF, least, most]
    rw [rN_at h (by omega) (by omega) (by decide)]
    simp only [Option.map_some, lay]
    rw [← hv]; simp [nrm]; omega
theorem n_get {c : Ch} (h : c.rb < 18446744073709551616) (l : L) : (get l c).n < 18446744073709551616 := by cases l <;> first | exact h | (show 0 < 18446744073709551616; decide)
theorem rFs_at {b : ByteArray} (n : Ch) (hn : n.rb < 18446744073709551616) (more : List UInt8) (ls : List L) : ∀ p m, ls.Nodup → p ≤ b.size → rest b p = body n ls ++ more → (∀ l ∈ ls, may l (get l n) = true) →
    ∃ x, rFs b ls p m = some (x, p + (body n ls).length) ∧ x.k = m.k ∧ (∀ l ∈ ls, get l x = get l n) ∧ ∀ l, l ∉ ls → get l x = get l m := by
  induction ls with
  | nil => intro p m _ _ _ _; exact ⟨m, by simp [rFs, body], rfl, by simp, fun _ _ => rfl⟩
  | cons l ls ih =>
    intro p m hd hp h hf
    obtain ⟨hl, hd⟩ := List.nodup_cons.mp hd
    have hb : body n (l :: ls) = lay l (get l n) ++ body n ls := by simp [body]
    have h' : rest b p = lay l (get l n) ++ (body n ls ++ more) := by rw [h, hb, List.append_assoc]
    have h1 := rF_at hp h' (hf l List.mem_cons_self) (nrm_get l n) (n_get hn l)
    obtain ⟨x, i1, i3, i4, i5⟩ := ih (p + (lay l (get l n)).length) (set l (get l n) m) hd (rest_in hp h') (rest_next h') (fun l' h => hf l' (List.mem_cons_of_mem _ h))
    refine ⟨x, ?_, by rw [i3, k_set], ?_, ?_⟩
    · simp only [rFs, h1, Option.bind_some, i1, hb, List.length_append]; congr 2; omega
    · intro l' h'
      rcases List.mem_cons.mp h' with rfl | h'
      · rw [i5 _ hl, get_set, nrm_get]
      · exact i4 _ h'
    · intro l' h'
      rw [List.mem_cons, not_or] at h'
      rw [i5 _ h'.2, get_ne (fun e => h'.1 e.symm)]
theorem rC_at {b : ByteArray} {c : Ch} (hc : Ok c) (hn : c.rb < 18446744073709551616) {p : Nat} {more : List UInt8} (hp : p ≤ b.size) (h : rest b p = bytes c ++ more) : rC b p = some (c, p + (bytes c).length) := by
  obtain ⟨h1, h2, h3⟩ := hc
  have h' : rest b p = Pk.enc c.k.toNat ++ (body c (letters c.k) ++ more) := by rw [h]; simp [bytes]
  have hk : ((c.k.toNat : Nat) : Int) = c.k := Int.toNat_of_nonneg (by omega)
  obtain ⟨x, i1, i3, i4, i5⟩ := rFs_at c hn more (letters c.k) _ (zC c.k) (letters_nodup _) (rest_in hp h') (rest_next h') h2
  rw [rC, rN_at (lo := 1) (hi := 6) h' (by omega) (by omega) (by decide), Option.bind_some]
  simp only [hk]
  rw [i1]
  have hx : x = c := ch_ext i3 fun l => by
    by_cases hl : l ∈ letters c.k
    · exact i4 l hl
    · rw [i5 l hl, get_z, h3 l hl]
  rw [hx]; simp only [bytes, List.length_append]; congr 2; omega
theorem rCs_at {b : ByteArray} {more : List UInt8} (l : List Ch) : ∀ p, p ≤ b.size → rest b p = all l ++ more → (∀ c ∈ l, Ok c ∧ c.rb < 18446744073709551616) → rCs b l.length p = some (l, p + (all l).length) := by
  induction l with
  | nil => intro p _ _ _; simp [rCs, all]
  | cons t l ih =>
    intro p hp h hs
    have hb : all (t :: l) = bytes t ++ all l := by simp [all]
    rw [hb, List.append_assoc] at h
    rw [List.length_cons, rCs, rC_at (hs t List.mem_cons_self).1 (hs t List.mem_cons_self).2 hp h]
    rw [Option.bind_some, ih _ (rest_in hp h) (rest_next h) fun x hx => hs x (List.mem_cons_of_mem _ hx)]
    simp only [Option.map_some, hb, List.length_append]
    congr 2; omega
theorem rest_zero (b : ByteArray) : rest b 0 = b.data.toList := by simp [rest]
/-- a row's bytes are no other's beginning -/
theorem row_apart {l m : List Ch} {more : List UInt8} (h : row l ++ more = row m) (hl : ∀ c ∈ l, Ok c ∧ c.rb < 18446744073709551616) (hm : ∀ c ∈ m, Ok c ∧ c.rb < 18446744073709551616) (h1 : l.length ≤ 16) (h2 : m.length ≤ 16) : l = m ∧ more = [] := by
  have e1 : rest ⟨(row m).toArray⟩ 0 = Pk.enc m.length ++ (all m ++ []) := by rw [rest_zero]; simp [row]
  have e2 : rest ⟨(row m).toArray⟩ 0 = Pk.enc l.length ++ (all l ++ more) := by rw [rest_zero, ← h]; simp [row]
  have n1 := rN_at (lo := 0) (hi := 16) e1 (Nat.zero_le _) h2 (by decide)
  have n2 := rN_at (lo := 0) (hi := 16) e2 (Nat.zero_le _) h1 (by decide)
  rw [n1] at n2
  simp only [Option.some.injEq, Prod.mk.injEq] at n2
  have c1 := rCs_at m _ (rest_in (Nat.zero_le _) e1) (rest_next e1) hm
  have c2 := rCs_at l _ (rest_in (Nat.zero_le _) e2) (rest_next e2) hl
  rw [← n2.1, c1] at c2
  simp only [Option.some.injEq, Prod.mk.injEq] at c2
  refine ⟨c2.1.symm, ?_⟩
  have := congrArg List.length h
  rw [c2.1] at this
  simp at this; exact this
/-- what is read was laid so -/
theorem rN_form {b : ByteArray} {lo hi p N q : Nat} (hp : p ≤ b.size) (h : rN b lo hi p = some (N, q)) : q ≤ b.size ∧ lo ≤ N ∧ N ≤ hi ∧ b.data.toList.take q = b.data.toList.take p ++ Pk.enc N := by
  unfold rN at h
  by_cases h1 : numK b p hi 21 = 0 ∧ lo ≤ numV b p
  · rw [if_pos h1] at h
    simp only [Option.some.injEq, Prod.mk.injEq] at h
    obtain ⟨q0, a1, a2, a3, a4⟩ := num_form hp (by decide) h1.1
    rw [← h.1, ← h.2]
    exact ⟨a1, h1.2, a2, a4⟩
  · rw [if_neg h1] at h; cases h
theorem rT_form {b S : ByteArray} {lo hi p q : Nat} (hp : p ≤ b.size) (h : rT b lo hi p = some (S, q)) : q ≤ b.size ∧ lo ≤ S.size ∧ S.size ≤ hi ∧ b.data.toList.take q = b.data.toList.take p ++ (Pk.enc S.size ++ S.data.toList) := by
  unfold rT at h
  by_cases h1 : textK b p hi = 0 ∧ lo ≤ (textV b p).size
  · rw [if_pos h1] at h
    simp only [Option.some.injEq, Prod.mk.injEq] at h
    obtain ⟨a1, a2, a3, a4, a5⟩ := text_form hp h1.1
    rw [← h.1, ← h.2]
    have h2 : numK b p hi 23 = 0 := by
      have h3 := h1.1
      unfold textK at h3
      by_cases h4 : numK b p hi 23 = 0
      · exact h4
      · rw [if_pos h4] at h3; exact h3
    obtain ⟨q0, _, b2, _⟩ := num_form hp (by decide) h2
    exact ⟨a1, h1.2, by rw [a2]; exact b2, a5⟩
  · rw [if_neg h1] at h; cases h
theorem rTs_form (b : ByteArray) (n : Nat) : ∀ p l q, p ≤ b.size → rTs b n p = some (l, q) → q ≤ b.size ∧ l.length = n ∧ (∀ t ∈ l, t.size ≤ 32) ∧ b.data.toList.take q = b.data.toList.take p ++ layT l := by
  induction n with
  | zero => intro p l q hp h; simp only [rTs, Option.some.injEq, Prod.mk.injEq] at h; rw [← h.1, ← h.2]; simp [layT, hp]
  | succ n ih =>
    intro p l q hp h
    rw [rTs, Option.bind_eq_some_iff] at h
    obtain ⟨⟨t, q1⟩, h1, h2⟩ := h
    rw [Option.map_eq_some_iff] at h2
    obtain ⟨⟨ts, q2⟩, h2, h3⟩ := h2
    simp only [Prod.mk.injEq] at h3
    obtain ⟨a1, a2, a3, a4⟩ := rT_form hp h1
    obtain ⟨c1, c2, c3, c4⟩ := ih q1 ts q2 a1 h2
    rw [← h3.1, ← h3.2]
    refine ⟨c1, by simp [c2], ?_, by rw [c4, a4, List.append_assoc]; simp [layT]⟩
    intro x hx
    rcases List.mem_cons.mp hx with rfl | hx
    · exact a3
    · exact c3 x hx
theorem rB_form {b : ByteArray} {c p N q : Nat} (h : rB b c p = some (N, q)) : q ≤ b.size ∧ (c = 0 ∨ N = 0) ∧ N < 18446744073709551616 ∧ b.data.toList.take q = b.data.toList.take p ++ Pk.big8 N := by
  unfold rB at h
  by_cases h1 : bitsK b p = 0 ∧ (c = 0 ∨ bitsV b p = 0)
  · rw [if_pos h1] at h
    simp only [Option.some.injEq, Prod.mk.injEq] at h
    obtain ⟨a1, a2, a3, a4⟩ := bits_form h1.1
    rw [← h.1, ← h.2]
    exact ⟨a1, h1.2, a2, a4⟩
  · rw [if_neg h1] at h; cases h
theorem rF_form {b : ByteArray} {l : L} {v : V} {p q : Nat} (hp : p ≤ b.size) (h : rF b l p = some (v, q)) : q ≤ b.size ∧ may l v = true ∧ nrm l v = v ∧ v.n < 18446744073709551616 ∧ b.data.toList.take q = b.data.toList.take p ++ lay l v := by
  cases l
  case R =>
    simp only [rF] at h
    rw [Option.bind_eq_some_iff] at h
    obtain ⟨⟨c, q1⟩, h1, h2⟩ := h
    rw [Option.map_eq_some_iff] at h2
    obtain ⟨⟨N, q2⟩, h2, h3⟩ := h2
    simp only [Prod.mk.injEq] at h3
    obtain ⟨a1, a2, a3, a4⟩ := rN_form hp h1
    obtain ⟨c1, c2, c3, c4⟩ := rB_form h2
    simp only at c1 c2 c3 c4
    rw [← h3.1, ← h3.2]
    refine ⟨c1, ?_, rfl, c3, by rw [c4, a4, List.append_assoc]; simp [lay]⟩
    unfold may; rw [Bool.and_eq_true, Bool.and_eq_true, Bool.or_eq_true]
    exact ⟨⟨decide_eq_true ⟨by simp [sz, least], by simp only [sz, most]; omega⟩, .inr (decide_eq_true (by rcases c2 with h | h; exact .inl (by simpa using h); exact .inr h))⟩, rfl⟩
  case P =>
    simp only [rF] at h
    rw [Option.map_eq_some_iff] at h
    obtain ⟨⟨N, q2⟩, h2, h3⟩ := h
    simp only [Prod.mk.injEq] at h3
    obtain ⟨a1, a2, a3, a4⟩ := rT_form hp h2
    rw [← h3.1, ← h3.2]
    refine ⟨a1, ?_, rfl, by simp, a4⟩
    unfold may; rw [Bool.and_eq_true, Bool.and_eq_true]
    exact ⟨⟨decide_eq_true ⟨by simp only [sz, least]; omega, by simp only [sz, most]; omega⟩, rfl⟩, rfl⟩
  case T =>
    simp only [rF] at h
    rw [Option.bind_eq_some_iff] at h
    obtain ⟨⟨c, q1⟩, h1, h2⟩ := h
    rw [Option.map_eq_some_iff] at h2
    obtain ⟨⟨N, q2⟩, h2, h3⟩ := h2
    simp only [Prod.mk.injEq] at h3
    obtain ⟨a1, a2, a3, a4⟩ := rN_form hp h1
    obtain ⟨c1, c2, c3, c4⟩ := rTs_form b c q1 N q2 a1 h2
    rw [← h3.1, ← h3.2]
    refine ⟨c1, ?_, rfl, by simp, by rw [c4, a4, List.append_assoc]; simp [lay, c2]⟩
    simp only [may, sz, least, most, c2]
    simp; exact ⟨by omega, c3⟩
  all_goals
    simp only [rF] at h
    rw [Option.map_eq_some_iff] at h
    obtain ⟨⟨N, q2⟩, h2, h3⟩ := h
    simp only [Prod.mk.injEq] at h3
    obtain ⟨a1, a2, a3, a4⟩ := rN_form hp h2
    simp only [least, most] at a2 a3
    rw [← h3.1, ← h3.2]
    refine ⟨a1, ?_, rfl, by simp, a4⟩
    unfold may; rw [Bool.and_eq_true, Bool.and_eq_true]
    exact ⟨⟨decide_eq_true ⟨by simp only [sz, least]; omega, by simp only [sz, most]; omega⟩, rfl⟩, rfl⟩
theorem rFs_form (b : ByteArray) (ls : List L) : ∀ p m x q, ls.Nodup → p ≤ b.size → m.rb < 18446744073709551616 → rFs b ls p m = some (x, q) →
    q ≤ b.size ∧ b.data.toList.take q = b.data.toList.take p ++ body x ls ∧ x.k = m.k ∧ x.rb < 18446744073709551616 ∧ (∀ l ∈ ls, may l (get l x) = true) ∧ ∀ l, l ∉ ls → get l x = get l m := by
  induction ls with
  | nil => intro p m x q _ hp hm h; simp only [rFs, Option.some.injEq, Prod.mk.injEq] at h; rw [← h.1, ← h.2]; simp [body, hp, hm]
  | cons l ls ih =>
    intro p m x q hn hp hm h
    obtain ⟨hl, hn⟩ := List.nodup_cons.mp hn
    rw [rFs, Option.bind_eq_some_iff] at h
    obtain ⟨⟨v, q1⟩, h1, h2⟩ := h
    obtain ⟨a1, a2, a3, a4, a5⟩ := rF_form hp h1
    obtain ⟨i1, i2, i3, i6, i4, i5⟩ := ih q1 _ x q hn a1 (by cases l <;> first | exact hm | exact a4) h2
    refine ⟨i1, ?_, by rw [i3, k_set], i6, ?_, ?_⟩
    · rw [i2, a5, List.append_assoc]
      congr 1
      simp only [body, List.flatMap_cons]
      rw [i5 _ hl, get_set, a3]
    · intro l' h'
      rcases List.mem_cons.mp h' with rfl | h'
      · rw [i5 _ hl, get_set, a3]; exact a2
      · exact i4 _ h'
    · intro l' h'
      rw [List.mem_cons, not_or] at h'
      rw [i5 _ h'.2, get_ne (fun e => h'.1 e.symm)]
theorem rC_form {b : ByteArray} {p q : Nat} {c : Ch} (hp : p ≤ b.size) (h : rC b p = some (c, q)) : q ≤ b.size ∧ Ok c ∧ c.rb < 18446744073709551616 ∧ b.data.toList.take q = b.data.toList.take p ++ bytes c := by
  rw [rC, Option.bind_eq_some_iff] at h
  obtain ⟨⟨k, q1⟩, h1, h2⟩ := h
  obtain ⟨a1, a2, a3, a4⟩ := rN_form hp h1
  obtain ⟨i1, i2, i3, i6, i4, i5⟩ := rFs_form b _ q1 _ c q (letters_nodup _) a1 (by show 0 < 18446744073709551616; decide) h2
  have hk : c.k = (k : Int) := i3
  refine ⟨i1, ⟨by omega, by rw [hk]; exact i4, by rw [hk]; intro l hl; rw [i5 l hl, get_z]⟩, i6, ?_⟩
  rw [i2, a4, List.append_assoc]
  simp [bytes, hk]
theorem rCs_form (b : ByteArray) (n : Nat) : ∀ p l q, p ≤ b.size → rCs b n p = some (l, q) → q ≤ b.size ∧ l.length = n ∧ (∀ c ∈ l, Ok c ∧ c.rb < 18446744073709551616) ∧ b.data.toList.take q = b.data.toList.take p ++ all l := by
  induction n with
  | zero => intro p l q hp h; simp only [rCs, Option.some.injEq, Prod.mk.injEq] at h; rw [← h.1, ← h.2]; simp [all, hp]
  | succ n ih =>
    intro p l q hp h
    rw [rCs, Option.bind_eq_some_iff] at h
    obtain ⟨⟨t, q1⟩, h1, h2⟩ := h
    rw [Option.map_eq_some_iff] at h2
    obtain ⟨⟨ts, q2⟩, h2, h3⟩ := h2
    simp only [Prod.mk.injEq] at h3
    obtain ⟨a1, a2, a3, a4⟩ := rC_form hp h1
    obtain ⟨c1, c2, c3, c4⟩ := ih q1 ts q2 a1 h2
    rw [← h3.1, ← h3.2]
    refine ⟨c1, by simp [c2], ?_, by rw [c4, a4, List.append_assoc]; simp [all]⟩
    intro x hx
    rcases List.mem_cons.mp hx with rfl | hx
    · exact ⟨a2, a3⟩
    · exact c3 x hx
/-- decode and encode -/
theorem deco_form {b : ByteArray} {l : List Ch} (h : deco b = some l) : enco l = (b, 0) ∧ (1 ≤ l.length ∧ l.length ≤ 16) ∧ ∀ c ∈ l, Ok c ∧ c.rb < 18446744073709551616 := by
  unfold deco at h
  by_cases hs : b.size ≤ 2048
  · rw [if_pos hs, Option.bind_eq_some_iff] at h
    obtain ⟨⟨n, q1⟩, h1, h2⟩ := h
    rw [Option.bind_eq_some_iff] at h2
    obtain ⟨⟨m, q2⟩, h2, h3⟩ := h2
    by_cases h4 : q2 = b.size
    · simp only [h4, if_true, Option.some.injEq] at h3
      subst h3
      obtain ⟨a1, a2, a3, a4⟩ := rN_form (Nat.zero_le _) h1
      obtain ⟨c1, c2, c3, c4⟩ := rCs_form b _ _ _ _ a1 h2
      simp only at c1 c2 c3 c4
      have hb : b.data.toList = row m := by
        rw [h4, a4] at c4
        rw [show b.size = b.data.toList.length from rfl, List.take_length] at c4
        rw [c4, row, c2]; simp
      have hl : (row m).length = b.size := by rw [← hb]; rfl
      refine ⟨?_, by omega, c3⟩
      unfold enco
      rw [if_neg (by omega), if_neg (by rw [(first_iff m).mpr fun c hc => (check_iff c).mpr (c3 c hc).1]; simp), if_neg (by omega), ← hb]
    · simp only [h4, if_false] at h3; cases h3
  · rw [if_neg hs] at h; cases h
theorem enco_ok {l : List Ch} (h : (enco l).2 = 0) : (1 ≤ l.length ∧ l.length ≤ 16) ∧ (∀ c ∈ l, Ok c) ∧ (row l).length ≤ 2048 ∧ (enco l).1 = ⟨(row l).toArray⟩ := by
  unfold enco at h ⊢
  by_cases h1 : l.length = 0 ∨ 16 < l.length
  · rw [if_pos h1] at h; cases h
  · rw [if_neg h1] at h ⊢
    by_cases h2 : first l ≠ 0
    · rw [if_pos h2] at h; exact absurd h h2
    · rw [if_neg h2] at h ⊢
      by_cases h3 : 2048 < (row l).length
      · rw [if_pos h3] at h; cases h
      · rw [if_neg h3]
        exact ⟨by omega, fun c hc => (check_iff c).mp ((first_iff l).mp (Classical.not_not.mp h2) c hc), by omega, rfl⟩
theorem enco_no {l : List Ch} (h : (enco l).2 ≠ 0) : (enco l).1 = e0 := by
  unfold enco at h ⊢
  by_cases h1 : l.length = 0 ∨ 16 < l.length
  · rw [if_pos h1]
  · rw [if_neg h1] at h ⊢
    by_cases h2 : first l ≠ 0
    · rw [if_pos h2]
    · rw [if_neg h2] at h ⊢
      by_cases h3 : 2048 < (row l).length
      · rw [if_pos h3]
      · rw [if_neg h3] at h; exact absurd rfl h
theorem deco_at {l : List Ch} (h : (enco l).2 = 0) (hr : ∀ c ∈ l, c.rb < 18446744073709551616) : deco (enco l).1 = some l := by
  obtain ⟨h1, h2, h3, h4⟩ := enco_ok h
  rw [h4]
  have hs : (⟨(row l).toArray⟩ : ByteArray).size = (row l).length := by simp [ByteArray.size]
  have e1 : rest ⟨(row l).toArray⟩ 0 = Pk.enc l.length ++ (all l ++ []) := by rw [rest_zero]; simp [row]
  unfold deco
  rw [if_pos (by omega), rN_at (lo := 1) (hi := 16) e1 (by omega) (by omega) (by decide), Option.bind_some]
  simp only
  rw [rCs_at l _ (rest_in (Nat.zero_le _) e1) (rest_next e1) fun c hc => ⟨h2 c hc, hr c hc⟩, Option.bind_some]
  simp only
  rw [if_pos (by rw [hs, row, List.length_append]; omega)]
theorem deco_none {b : ByteArray} (h : ∀ l, enco l = (b, 0) → ∃ c ∈ l, ¬ c.rb < 18446744073709551616) : deco b = none := by
  cases hd : deco b with
  | none => rfl
  | some l =>
    obtain ⟨h1, _, h3⟩ := deco_form hd
    obtain ⟨c, hc, hn⟩ := h l h1
    exact absurd (h3 c hc).2 hn
end Rc
end Go.Proofs.Ytlgcimfbhjidgaa
end

section
namespace Go.Proofs.Ytlgcimfbhjidgaa
namespace Wr
/-- what a reader says at its end -/
def endK (b : ByteArray) (p f : Nat) : Nat := if f ≠ 0 then f else if p < b.size then 24 else 0
/-- Decode, with what it lets a field be at most -/
def decode (lim : Int → L → Nat) (b : ByteArray) : Ms × Nat :=
  if 2048 < b.size then (zM 0, 73) else
  let h := rdN b 16 0 0
  let r := rds b (lim h.1) (letters h.1) h.2.1 h.2.2 (zM h.1)
  if endK b r.1 r.2.1 ≠ 0 ∨ check r.2.2 ≠ 0 then (zM 0, 72) else (r.2.2, 0)
structure Lim (lim : Int → L → Nat) : Prop where
  hi : ∀ k l, lim k l ≤ 140737488351232
  lo : ∀ k l, most k l ≤ lim k l
theorem fits_may {lim : Int → L → Nat} (hl : Lim lim) {m : Ms} (hb : m.rb < 18446744073709551616) {l : L} (h : may m.k l (get l m) = true) : fits (lim m.k) l (get l m) := by
  have hlo := hl.lo m.k l
  unfold may at h
  rw [Bool.and_eq_true, decide_eq_true_eq] at h
  obtain ⟨⟨h1, h2⟩, _⟩ := h
  cases l <;> simp only [fits, least, sz, get] at * <;> omega
theorem rest_zero (b : ByteArray) : rest b 0 = b.data.toList := rfl
theorem size_list (b : ByteArray) : b.size = b.data.toList.length := rfl
/-- reading a message's bytes, with more behind them -/
theorem reads_there {lim : Int → L → Nat} (hl : Lim lim) {m : Ms} (hb : m.rb < 18446744073709551616) (hc : check m = 0) {b : ByteArray} {more : List UInt8} (h : b.data.toList = bytes m ++ more) :
    rdN b 16 0 0 = (m.k.toNat, (Pk.enc m.k.toNat).length, 0) ∧ rds b (lim m.k) (letters m.k) (Pk.enc m.k.toNat).length 0 (zM m.k) = ((bytes m).length, 0, m) := by
  obtain ⟨⟨k1, k2⟩, _, h3, h4⟩ := (check_iff m).mp hc
  have h0 : rest b 0 = Pk.enc m.k.toNat ++ (body m (letters m.k) ++ more) := by rw [rest_zero, h, bytes, List.append_assoc]
  have e1 := rdN_at (lim := 16) h0 (by omega) (by decide)
  rw [Nat.zero_add] at e1
  refine ⟨e1, ?_⟩
  have e2 := rest_next h0
  have e3 := rest_in (Nat.zero_le _) h0
  rw [Nat.zero_add] at e2 e3
  obtain ⟨i1, i2, i3, i4, i5⟩ := rds_there (hl.hi m.k) m more (letters m.k) _ (zM m.k) (letters_nodup _) e3 e2 (fun l h => fits_may hl hb (h3 l h))
  refine Prod.ext (by rw [i1, bytes, List.length_append]) (Prod.ext i2 (ms_ext (by rw [i3]; rfl) fun l => ?_))
  by_cases hl : l ∈ letters m.k
  · exact i4 l hl
  · rw [i5 l hl, get_z, h4 l hl]
theorem decode_there {lim : Int → L → Nat} (hl : Lim lim) {m : Ms} (hb : m.rb < 18446744073709551616) (hc : check m = 0) {b : ByteArray} (hs : b.size ≤ 2048) (h : b.data.toList = bytes m) : decode lim b = (m, 0) := by
  obtain ⟨⟨k1, k2⟩, _⟩ := (check_iff m).mp hc
  obtain ⟨e1, e2⟩ := reads_there hl hb hc (more := []) (by rw [h, List.append_nil])
  unfold decode
  rw [if_neg (by omega)]
  simp only [e1, Int.toNat_of_nonneg (show 0 ≤ m.k by omega), e2]
  rw [if_neg]
  rw [not_or, Decidable.not_not, Decidable.not_not]
  exact ⟨by unfold endK; rw [if_neg (by simp), if_neg (by rw [size_list, h]; omega)], hc⟩
theorem rdB_lt (b : ByteArray) (p f : Nat) : (rdB b p f).1 < 18446744073709551616 := by
  unfold rdB
  by_cases h : f ≠ 0
  · rw [if_pos h]; exact (by decide : (0 : Nat) < 18446744073709551616)
  · rw [if_neg h]
    by_cases h1 : bitsK b p = 0
    · rw [if_pos h1]; exact (bits_form h1).2.1
    · rw [if_neg h1]; exact (by decide : (0 : Nat) < 18446744073709551616)
theorem rds_rb (b : ByteArray) (lim : L → Nat) (ls : List L) : ∀ p f m, m.rb < 18446744073709551616 → (rds b lim ls p f m).2.2.rb < 18446744073709551616 := by
  induction ls with
  | nil => intro p f m h; exact h
  | cons l ls ih =>
    intro p f m h
    simp only [rds]
    apply ih
    cases l
    case R => exact rdB_lt _ _ _
    all_goals exact h
theorem rdN_le (b : ByteArray) (lim p f : Nat) (hp : p ≤ b.size) : (rdN b lim p f).1 ≤ lim ∧ (rdN b lim p f).2.1 ≤ b.size := by
  by_cases hf : f ≠ 0
  · rw [rdN_dead hf]; exact ⟨Nat.zero_le _, hp⟩
  · rw [Decidable.not_not] at hf; subst hf
    by_cases h : (rdN b lim p 0).2.2 = 0
    · obtain ⟨a1, a2, _⟩ := rdN_form hp h; exact ⟨a2, a1⟩
    · unfold rdN at h ⊢
      rw [if_neg (by simp)] at h ⊢
      by_cases h1 : numK b p lim 21 = 0
      · rw [if_pos h1] at h; exact absurd rfl h
      · rw [if_neg h1]; exact ⟨Nat.zero_le _, hp⟩
theorem decode_form {lim : Int → L → Nat} {b : ByteArray} {m : Ms} (h : decode lim b = (m, 0)) : b.size ≤ 2048 ∧ check m = 0 ∧ b.data.toList = bytes m ∧ m.rb < 18446744073709551616 := by
  unfold decode at h
  by_cases h1 : 2048 < b.size
  · rw [if_pos h1] at h; exact absurd (congrArg Prod.snd h) (by decide : ¬ (73 : Nat) = 0)
  · rw [if_neg h1] at h
    simp only at h
    split at h
    · exact absurd (congrArg Prod.snd h) (by decide : ¬ (72 : Nat) = 0)
    · rename_i hn
      rw [not_or, Decidable.not_not, Decidable.not_not] at hn
      obtain ⟨hE, hc⟩ := hn
      have hm := congrArg Prod.fst h
      simp only at hm
      have hf0 : (rdN b 16 0 0).2.2 = 0 := by
        by_cases hz : (rdN b 16 0 0).2.2 = 0
        · exact hz
        · exfalso
          have := (rds_dead b (lim (rdN b 16 0 0).1) (letters (rdN b 16 0 0).1) (rdN b 16 0 0).2.1 (rdN b 16 0 0).2.2 (zM (rdN b 16 0 0).1) hz).1
          unfold endK at hE
          rw [this, if_pos hz] at hE
          exact hz hE
      obtain ⟨a1, a2, a3⟩ := rdN_form (Nat.zero_le _) hf0
      rw [hf0] at hE hc hm
      have hf1 : (rds b (lim (rdN b 16 0 0).1) (letters (rdN b 16 0 0).1) (rdN b 16 0 0).2.1 0 (zM (rdN b 16 0 0).1)).2.1 = 0 := by
        unfold endK at hE
        by_cases hz : (rds b (lim (rdN b 16 0 0).1) (letters (rdN b 16 0 0).1) (rdN b 16 0 0).2.1 0 (zM (rdN b 16 0 0).1)).2.1 = 0
        · exact hz
        · rw [if_pos hz] at hE; exact absurd hE hz
      obtain ⟨i1, i2, i3, i4⟩ := rds_form b _ _ _ _ (letters_nodup _) a1 hf1
      have hp : ¬ (rds b (lim (rdN b 16 0 0).1) (letters (rdN b 16 0 0).1) (rdN b 16 0 0).2.1 0 (zM (rdN b 16 0 0).1)).1 < b.size := by
        intro hlt
        unfold endK at hE
        rw [hf1, if_neg (by simp), if_pos hlt] at hE
        cases hE
      have hrb := rds_rb b (lim (rdN b 16 0 0).1) (letters (rdN b 16 0 0).1) (rdN b 16 0 0).2.1 0 (zM (rdN b 16 0 0).1) (show (0 : Nat) < _ by decide)
      rw [hm] at i2 i3 hc hrb
      refine ⟨by omega, hc, ?_, hrb⟩
      have hk : m.k = ((rdN b 16 0 0).1 : Int) := i3
      rw [a3, List.take_of_length_le (by rw [← size_list]; omega)] at i2
      rw [i2, bytes, hk]
      simp
theorem decode_or (lim : Int → L → Nat) (b : ByteArray) : (2048 < b.size ∧ decode lim b = (zM 0, 73)) ∨ (b.size ≤ 2048 ∧ (decode lim b = (zM 0, 72) ∨ ∃ m, decode lim b = (m, 0))) := by
  unfold decode
  by_cases h1 : 2048 < b.size
  · rw [if_pos h1]; exact .inl ⟨h1, rfl⟩
  · rw [if_neg h1]
    refine .inr ⟨by omega, ?_⟩
    simp only
    split
    · exact .inl rfl
    · exact .inr ⟨_, rfl⟩
theorem decode_eq {lim lim' : Int → L → Nat} (h : Lim lim) (h' : Lim lim') (b : ByteArray) : decode lim b = decode lim' b := by
  rcases decode_or lim b with ⟨a, e⟩ | ⟨a, e⟩ <;> rcases decode_or lim' b with ⟨a', e'⟩ | ⟨a', e'⟩
  · rw [e, e']
  · omega
  · omega
  · rcases e with e | ⟨m, e⟩
    · rcases e' with e' | ⟨m', e'⟩
      · rw [e, e']
      · obtain ⟨f1, f2, f3, f4⟩ := decode_form e'
        rw [decode_there h f4 f2 f1 f3] at e
        exact absurd (congrArg Prod.snd e) (by decide : ¬ (0 : Nat) = 72)
    · obtain ⟨f1, f2, f3, f4⟩ := decode_form e
      rw [e, decode_there h' f4 f2 f1 f3]
/-- a message's bytes are no beginning of another one's -/
theorem bytes_apart {m n : Ms} (hm : check m = 0) (hn : check n = 0) (bm : m.rb < 18446744073709551616) (bn : n.rb < 18446744073709551616) {more : List UInt8} (h : bytes m = bytes n ++ more) : m = n ∧ more = [] := by
  have hl : Lim fun _ _ => 1099511627776 := ⟨fun _ _ => by decide, fun k l => by cases l <;> simp only [most] <;> (try split) <;> decide⟩
  have e : (⟨(bytes m).toArray⟩ : ByteArray).data.toList = bytes m ++ [] := by simp
  have e' : (⟨(bytes m).toArray⟩ : ByteArray).data.toList = bytes n ++ more := by simp [h]
  obtain ⟨a1, a2⟩ := reads_there hl bm hm e
  obtain ⟨b1, b2⟩ := reads_there hl bn hn e'
  obtain ⟨⟨k1, k2⟩, _⟩ := (check_iff m).mp hm
  obtain ⟨⟨l1, l2⟩, _⟩ := (check_iff n).mp hn
  have hk : m.k = n.k := by
    have := congrArg Prod.fst (a1.symm.trans b1)
    simp only at this
    omega
  rw [hk] at a2
  have := a2.symm.trans b2
  have h1 := congrArg Prod.fst this
  have h2 := congrArg (fun x => x.2.2) this
  simp only at h1 h2
  refine ⟨h2, ?_⟩
  have hlen := congrArg List.length h
  rw [List.length_append] at hlen
  exact List.eq_nil_of_length_eq_zero (by omega)
def bd : L → Nat
  | .R => 18 | .T => 42 | .P => 1034 | _ => 10
theorem lay_bd {m : Ms} {l : L} (h : may m.k l (get l m) = true) : (lay l (get l m)).length ≤ bd l := by
  unfold may at h
  rw [Bool.and_eq_true, decide_eq_true_eq] at h
  obtain ⟨⟨h1, h2⟩, _⟩ := h
  cases l <;> simp only [lay, least, most, sz, get, bd, List.length_append] at *
  case R => have := Pk.enc_ten (n := m.rc.toNat) (by omega); rw [show (Pk.big8 m.rb).length = 8 from rfl]; omega
  case T => have := Pk.enc_ten (n := m.tx.size) (by omega); rw [← size_list]; omega
  case P => have := Pk.enc_ten (n := m.pr.size) (by omega); rw [← size_list]; omega
  case I => exact Pk.enc_ten (by split at h2 <;> omega)
  case C => exact Pk.enc_ten (by split at h2 <;> omega)
  all_goals exact Pk.enc_ten (by omega)
theorem body_bd (m : Ms) (ls : List L) (h : ∀ l ∈ ls, may m.k l (get l m) = true) : (body m ls).length ≤ (ls.map bd).sum := by
  induction ls with
  | nil => simp [body]
  | cons l ls ih =>
    have h1 := lay_bd (h l List.mem_cons_self)
    have h2 := ih (fun l' h' => h l' (List.mem_cons_of_mem _ h'))
    simp only [body, List.flatMap_cons, List.length_append, List.map_cons, List.sum_cons] at *
    omega
theorem bd_ite {c : Prop} [Decidable c] {a b : List L} (ha : (a.map bd).sum ≤ 2000) (hb : (b.map bd).sum ≤ 2000) : ((if c then a else b).map bd).sum ≤ 2000 := by
  by_cases h : c
  · rw [if_pos h]; exact ha
  · rw [if_neg h]; exact hb
theorem letters_bd (k : Int) : ((letters k).map bd).sum ≤ 2000 := by
  unfold letters
  repeat (refine bd_ite (by decide) ?_)
  decide
theorem bytes_len {m : Ms} (hm : check m = 0) : (bytes m).length ≤ 2048 := by
  obtain ⟨⟨k1, k2⟩, _, h, _⟩ := (check_iff m).mp hm
  have h1 := body_bd m _ h
  have h2 := letters_bd m.k
  have h3 := Pk.enc_ten (n := m.k.toNat) (by omega)
  rw [bytes, List.length_append]
  omega
theorem bytes_head {m : Ms} (hm : check m = 0) : ∃ t, bytes m = UInt8.ofNat m.k.toNat :: t := by
  obtain ⟨⟨k1, k2⟩, _⟩ := (check_iff m).mp hm
  exact ⟨body m (letters m.k), by rw [bytes, Pk.enc_lt (by omega)]; rfl⟩
end Wr
end Go.Proofs.Ytlgcimfbhjidgaa
end

section
namespace Go.Proofs.Ytlgcimfbhjidgaa
open Go.RowKit

set_option maxHeartbeats 800000 in
set_option maxRecDepth 8000 in
theorem qnum_any (n : Nat) (hn : n < 18446744073709551616) (w : World) :
    Calls Try.prog 35 #[.int .u64 (n : Int)] w fun e w' => e = .returned (.string ⟨(Pk.enc n).toArray⟩) ∧ Below w.heap.size w w' := by
  obtain ⟨i0, hi, hz0, hz1, hz2⟩ := info_parts Try.infoB
  go_enter Try.func35, Try.ntmps35
  go_wp2
  go_loopw [0, 3] (fun u v wr => ∃ (m : Nat) (pre : List UInt8), u = .int .u64 (m : Int) ∧ m ≤ n ∧ Hid (Pk.enc n = pre ++ Pk.enc m) ∧ wr.ownsRow w.heap.size 5 1 v pre.length (bc pre) ∧ Below w.heap.size w wr) (fun u _ _ => (intOf u).toNat)
  case atStart => exact ⟨n, [], rfl, Nat.le_refl _, rfl, World.ownsRow_made w #[] 0 (Nat.le_refl _) (by decide) rfl, below_alloc _ _⟩
  case round =>
    obtain ⟨m, pre, rfl, hm, HE, hown, hbel⟩ := hrel
    have hlen := Pk.enc_ten hn
    rw [HE.out, List.length_append] at hlen
    have hpos := Pk.enc_pos m
    by_cases h128 : m < 128
    · have b0 : decide ((128 : Int) ≤ (m : Int)) = false := by simp; omega
      have HN : Hid (bc (Pk.enc n) = bc pre ++ [.int .u8 (m : Int)]) := (show bc (Pk.enc n) = _ by
        rw [HE.out, bc_append, Pk.enc_lt h128]; simp only [bc, List.map_cons, List.map_nil]; rw [Pk.toNat_ofNat (by omega)])
      have HM : Hid (pre.length + 1 = (Pk.enc n).length) := (show pre.length + 1 = _ by rw [HE.out, List.length_append, Pk.enc_lt h128]; rfl)
      go_wp2_with (first
        | (at_builtin; refine wpList_append_own _ rfl _ _ 87 rfl w.heap.size 5 i0 (.int .u8 0) 1 1 Try.underlying87 hi hz0 hz1 hz2 rfl (by decide) _ _ _ rfl (hown.alloc _) ⟨wr.heap.size, 0, none⟩ 1 1 [.int .u8 (m : Int)] rfl rfl (one_new _ _ _) (by intro u hu; simp at hu; subst hu; rfl) (by unfold maxLen; omega) (by omega) (by have := hbel.size; simp; omega) ?_; intro v' w1 hown' hgrow hnil; clear hnil; have hcv : (convert 87 9 v').run Try.prog w1 = .ok (.string ⟨(Pk.enc n).toArray⟩) w1 := own_str (base := w.heap.size) (by rw [← HM.out, HN.out]; exact hown'); have hb1 : Below w.heap.size w w1 := grow_below (Nat.le_refl _) hbel hown _ hgrow; clear hown' hgrow hown hbel)
        | go_in)
      go_ret
      exact ⟨rfl, hb1⟩
    · have b0 : decide ((128 : Int) ≤ (m : Int)) = true := by simp; omega
      have HE' : Hid (Pk.enc n = (pre ++ [UInt8.ofNat (m % 128 + 128)]) ++ Pk.enc (m / 128)) := (show Pk.enc n = _ by rw [HE.out, Pk.enc_ge h128]; simp)
      have HN : Hid (bc (pre ++ [UInt8.ofNat (m % 128 + 128)]) = bc pre ++ [.int .u8 ((m : Int) % 128 + 128)]) := (show bc _ = _ by
        rw [bc_append]; simp only [bc, List.map_cons, List.map_nil]; rw [Pk.toNat_ofNat (by omega)]; rfl)
      go_wp2_with (first
        | (at_builtin; refine wpList_append_own _ rfl _ _ 87 rfl w.heap.size 5 i0 (.int .u8 0) 1 1 Try.underlying87 hi hz0 hz1 hz2 rfl (by decide) _ _ _ rfl (hown.alloc _) ⟨wr.heap.size, 0, none⟩ 1 1 [.int .u8 ((m : Int) % 128 + 128)] rfl rfl (one_new _ _ _) (by intro u hu; simp at hu; subst hu; rfl) (by unfold maxLen; omega) (by omega) (by have := hbel.size; simp; omega) ?_; intro v' w1 hown' hgrow hnil; clear hnil; have HB1 : Hid (Below w.heap.size w w1) := grow_below (Nat.le_refl _) hbel hown _ hgrow)
        | go_in)
      refine ⟨⟨m / 128, pre ++ [UInt8.ofNat (m % 128 + 128)], by go_num, by omega, HE', ?_, HB1.out⟩, by simp [intOf]; omega⟩
      rw [HN.out, List.length_append]
      exact hown'

set_option maxHeartbeats 400000 in
theorem qtext_any (s : ByteArray) (hs : s.size ≤ 140737488351232) (w : World) :
    Calls Try.prog 39 #[.string s] w fun e w' => e = .returned (.string ((⟨(Pk.enc s.size).toArray⟩ : ByteArray) ++ s)) ∧ Below w.heap.size w w' := by
  have hlen := Pk.enc_ten (n := s.size) (by omega)
  have hadd : ∀ w1 : World, (Op.stringOp .add ⟨(Pk.enc s.size).toArray⟩ s).run Try.prog w1 = .ok (.string ((⟨(Pk.enc s.size).toArray⟩ : ByteArray) ++ s)) w1 := fun w1 =>
    run_string_add_sum w1 _ _ (by show (Pk.enc s.size).toArray.size + s.size ≤ _; simp; omega)
  generalize (⟨(Pk.enc s.size).toArray⟩ : ByteArray) ++ s = t at *
  go_enter Try.func39, Try.ntmps39
  go_wp2_with (go_at_call 35; refine (qnum_any s.size (by omega) _).mono ?_; rintro e w' ⟨rfl, hb⟩)
  go_ret
  exact ⟨rfl, hb⟩
end Go.Proofs.Ytlgcimfbhjidgaa
end

section
namespace Go.Proofs.Ytlgcimfbhjidgaa
open Go.RowKit

theorem big8_bc (n : Nat) (hn : n < 18446744073709551616) : bc (Pk.big8 n) = [.int .u8 ((n : Int) / 72057594037927936), .int .u8 ((n : Int) / 281474976710656 % 256), .int .u8 ((n : Int) / 1099511627776 % 256), .int .u8 ((n : Int) / 4294967296 % 256), .int .u8 ((n : Int) / 16777216 % 256), .int .u8 ((n : Int) / 65536 % 256), .int .u8 ((n : Int) / 256 % 256), .int .u8 ((n : Int) % 256)] := by
  have e : ∀ x : Nat, (UInt8.ofNat (x % 256)).toNat = x % 256 := fun x => Pk.toNat_ofNat (Nat.mod_lt _ (by decide))
  simp only [bc, Pk.big8, List.map_cons, List.map_nil, e]
  have e0 : ((n / 72057594037927936 % 256 : Nat) : Int) = (n : Int) / 72057594037927936 := by omega
  rw [e0]
  rfl

set_option maxHeartbeats 1600000 in
set_option maxRecDepth 8000 in
theorem qbits_any (n : Nat) (hn : n < 18446744073709551616) (w : World) :
    Calls Try.prog 40 #[.int .u64 (n : Int)] w fun e w' => e = .returned (.string ⟨(Pk.big8 n).toArray⟩) ∧ Below w.heap.size w w' := by
  obtain ⟨i0, hi, hz0, hz1, hz2⟩ := info_parts Try.infoB
  have HBC : Hid (bc (Pk.big8 n) = [.int .u8 ((n : Int) / 72057594037927936), .int .u8 ((n : Int) / 281474976710656 % 256), .int .u8 ((n : Int) / 1099511627776 % 256), .int .u8 ((n : Int) / 4294967296 % 256), .int .u8 ((n : Int) / 16777216 % 256), .int .u8 ((n : Int) / 65536 % 256), .int .u8 ((n : Int) / 256 % 256), .int .u8 ((n : Int) % 256)]) := big8_bc n hn
  go_enter Try.func40, Try.ntmps40
  go_wp2
  have hown0 : (w.alloc (.cells #[] 5)).ownsRow w.heap.size 5 1 (.slice (some ⟨w.heap.size, 0, none⟩) 0 0) 0 [] := World.ownsRow_made w #[] 0 (Nat.le_refl _) (by decide) rfl
  have hb0 : Below w.heap.size w (w.alloc (.cells #[] 5)) := below_alloc _ _
  generalize hw0 : w.alloc (.cells #[] 5) = w0 at *
  clear hw0
  refine wp_loop_rounds 9 ?_
  rw [rounds_succ]
  go_wp2_with (first
    | (at_builtin; refine wpList_append_own _ rfl _ _ 87 rfl w.heap.size 5 i0 (.int .u8 0) 1 1 Try.underlying87 hi hz0 hz1 hz2 rfl (by decide) _ _ _ rfl (hown0.alloc _) ⟨w0.heap.size, 0, none⟩ 1 1 [.int .u8 ((n : Int) / 72057594037927936)] rfl rfl (one_new _ _ _) (by intro u hu; simp at hu; subst hu; rfl) (by decide) (by decide) (by have := hb0.size; simp; omega) ?_; intro v1 w1 hown1 hgrow hnil; clear hnil; have hb1 : Below w.heap.size w w1 := grow_below (Nat.le_refl _) hb0 hown0 _ hgrow; clear hgrow hb0 hown0)
    | go_in)
  rw [rounds_succ]
  go_wp2_with (first
    | (at_builtin; refine wpList_append_own _ rfl _ _ 87 rfl w.heap.size 5 i0 (.int .u8 0) 1 1 Try.underlying87 hi hz0 hz1 hz2 rfl (by decide) _ _ _ rfl (hown1.alloc _) ⟨w1.heap.size, 0, none⟩ 1 1 [.int .u8 ((n : Int) / 281474976710656 % 256)] rfl rfl (one_new _ _ _) (by intro u hu; simp at hu; subst hu; rfl) (by decide) (by decide) (by have := hb1.size; simp; omega) ?_; intro v2 w2 hown2 hgrow hnil; clear hnil; have hb2 : Below w.heap.size w w2 := grow_below (Nat.le_refl _) hb1 hown1 _ hgrow; clear hgrow hb1 hown1)
    | go_in)
  rw [rounds_succ]
  go_wp2_with (first
    | (at_builtin; refine wpList_append_own _ rfl _ _ 87 rfl w.heap.size 5 i0 (.int .u8 0) 1 1 Try.underlying87 hi hz0 hz1 hz2 rfl (by decide) _ _ _ rfl (hown2.alloc _) ⟨w2.heap.size, 0, none⟩ 1 1 [.int .u8 ((n : Int) / 1099511627776 % 256)] rfl rfl (one_new _ _ _) (by intro u hu; simp at hu; subst hu; rfl) (by decide) (by decide) (by have := hb2.size; simp; omega) ?_; intro v3 w3 hown3 hgrow hnil; clear hnil; have hb3 : Below w.heap.size w w3 := grow_below (Nat.le_refl _) hb2 hown2 _ hgrow; clear hgrow hb2 hown2)
    | go_in)
  rw [rounds_succ]
  go_wp2_with (first
    | (at_builtin; refine wpList_append_own _ rfl _ _ 87 rfl w.heap.size 5 i0 (.int .u8 0) 1 1 Try.underlying87 hi hz0 hz1 hz2 rfl (by decide) _ _ _ rfl (hown3.alloc _) ⟨w3.heap.size, 0, none⟩ 1 1 [.int .u8 ((n : Int) / 4294967296 % 256)] rfl rfl (one_new _ _ _) (by intro u hu; simp at hu; subst hu; rfl) (by decide) (by decide) (by have := hb3.size; simp; omega) ?_; intro v4 w4 hown4 hgrow hnil; clear hnil; have hb4 : Below w.heap.size w w4 := grow_below (Nat.le_refl _) hb3 hown3 _ hgrow; clear hgrow hb3 hown3)
    | go_in)
  rw [rounds_succ]
  go_wp2_with (first
    | (at_builtin; refine wpList_append_own _ rfl _ _ 87 rfl w.heap.size 5 i0 (.int .u8 0) 1 1 Try.underlying87 hi hz0 hz1 hz2 rfl (by decide) _ _ _ rfl (hown4.alloc _) ⟨w4.heap.size, 0, none⟩ 1 1 [.int .u8 ((n : Int) / 16777216 % 256)] rfl rfl (one_new _ _ _) (by intro u hu; simp at hu; subst hu; rfl) (by decide) (by decide) (by have := hb4.size; simp; omega) ?_; intro v5 w5 hown5 hgrow hnil; clear hnil; have hb5 : Below w.heap.size w w5 := grow_below (Nat.le_refl _) hb4 hown4 _ hgrow; clear hgrow hb4 hown4)
    | go_in)
  rw [rounds_succ]
  go_wp2_with (first
    | (at_builtin; refine wpList_append_own _ rfl _ _ 87 rfl w.heap.size 5 i0 (.int .u8 0) 1 1 Try.underlying87 hi hz0 hz1 hz2 rfl (by decide) _ _ _ rfl (hown5.alloc _) ⟨w5.heap.size, 0, none⟩ 1 1 [.int .u8 ((n : Int) / 65536 % 256)] rfl rfl (one_new _ _ _) (by intro u hu; simp at hu; subst hu; rfl) (by decide) (by decide) (by have := hb5.size; simp; omega) ?_; intro v6 w6 hown6 hgrow hnil; clear hnil; have hb6 : Below w.heap.size w w6 := grow_below (Nat.le_refl _) hb5 hown5 _ hgrow; clear hgrow hb5 hown5)
    | go_in)
  rw [rounds_succ]
  go_wp2_with (first
    | (at_builtin; refine wpList_append_own _ rfl _ _ 87 rfl w.heap.size 5 i0 (.int .u8 0) 1 1 Try.underlying87 hi hz0 hz1 hz2 rfl (by decide) _ _ _ rfl (hown6.alloc _) ⟨w6.heap.size, 0, none⟩ 1 1 [.int .u8 ((n : Int) / 256 % 256)] rfl rfl (one_new _ _ _) (by intro u hu; simp at hu; subst hu; rfl) (by decide) (by decide) (by have := hb6.size; simp; omega) ?_; intro v7 w7 hown7 hgrow hnil; clear hnil; have hb7 : Below w.heap.size w w7 := grow_below (Nat.le_refl _) hb6 hown6 _ hgrow; clear hgrow hb6 hown6)
    | go_in)
  rw [rounds_succ]
  go_wp2_with (first
    | (at_builtin; refine wpList_append_own _ rfl _ _ 87 rfl w.heap.size 5 i0 (.int .u8 0) 1 1 Try.underlying87 hi hz0 hz1 hz2 rfl (by decide) _ _ _ rfl (hown7.alloc _) ⟨w7.heap.size, 0, none⟩ 1 1 [.int .u8 ((n : Int) % 256)] rfl rfl (one_new _ _ _) (by intro u hu; simp at hu; subst hu; rfl) (by decide) (by decide) (by have := hb7.size; simp; omega) ?_; intro v8 w8 hown8 hgrow hnil; clear hnil; have hb8 : Below w.heap.size w w8 := grow_below (Nat.le_refl _) hb7 hown7 _ hgrow; clear hgrow hb7 hown7)
    | go_in)
  have hcv : (convert 87 9 v8).run Try.prog w8 = .ok (.string ⟨(Pk.big8 n).toArray⟩) w8 := own_str (base := w.heap.size) (l := Pk.big8 n) (by rw [HBC.out]; exact hown8)
  clear hown8
  rw [rounds_succ]
  go_wp2
  go_ret
  exact ⟨rfl, hb8⟩

end Go.Proofs.Ytlgcimfbhjidgaa
end
