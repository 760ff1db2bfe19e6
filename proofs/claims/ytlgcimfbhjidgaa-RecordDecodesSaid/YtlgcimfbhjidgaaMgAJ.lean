import Derived.Test.YtlgcimfbhjidgaaMgAI

section
namespace Go.Proofs.Ytlgcimfbhjidgaa
namespace Wr

/-- the fields' letters -/
inductive L | S | N | J | B | I | C | R | T | P deriving DecidableEq
/-- what stands in a field -/
@[ext] structure V where
  i : Int
  n : Nat
  t : ByteArray
@[ext] structure Ms where
  k : Int
  se : Int
  nu : Int
  jo : Int
  ba : Int
  ix : Int
  co : Int
  rc : Int
  rb : Nat
  tx : ByteArray
  pr : ByteArray
  deriving DecidableEq
def e0 : ByteArray := ⟨#[]⟩
def zV : V := ⟨0, 0, e0⟩
def zM (k : Int) : Ms := ⟨k, 0, 0, 0, 0, 0, 0, 0, 0, e0, e0⟩
def get : L → Ms → V
  | .S, m => ⟨m.se, 0, e0⟩ | .N, m => ⟨m.nu, 0, e0⟩ | .J, m => ⟨m.jo, 0, e0⟩ | .B, m => ⟨m.ba, 0, e0⟩ | .I, m => ⟨m.ix, 0, e0⟩ | .C, m => ⟨m.co, 0, e0⟩
  | .R, m => ⟨m.rc, m.rb, e0⟩ | .T, m => ⟨0, 0, m.tx⟩ | .P, m => ⟨0, 0, m.pr⟩
def set : L → V → Ms → Ms
  | .S, v, m => { m with se := v.i } | .N, v, m => { m with nu := v.i } | .J, v, m => { m with jo := v.i } | .B, v, m => { m with ba := v.i } | .I, v, m => { m with ix := v.i } | .C, v, m => { m with co := v.i }
  | .R, v, m => { m with rc := v.i, rb := v.n } | .T, v, m => { m with tx := v.t } | .P, v, m => { m with pr := v.t }
def nrm : L → V → V
  | .R, v => ⟨v.i, v.n, e0⟩ | .T, v => ⟨0, 0, v.t⟩ | .P, v => ⟨0, 0, v.t⟩ | _, v => ⟨v.i, 0, e0⟩
theorem get_set (l : L) (v : V) (m : Ms) : get l (set l v m) = nrm l v := by cases l <;> rfl
theorem get_ne {l l' : L} (h : l ≠ l') (v : V) (m : Ms) : get l' (set l v m) = get l' m := by cases l <;> cases l' <;> first | rfl | exact absurd rfl h
theorem k_set (l : L) (v : V) (m : Ms) : (set l v m).k = m.k := by cases l <;> rfl
theorem nrm_get (l : L) (m : Ms) : nrm l (get l m) = get l m := by cases l <;> rfl
theorem get_z (l : L) (k : Int) : get l (zM k) = zV := by cases l <;> rfl
theorem nrm_z (l : L) : nrm l zV = zV := by cases l <;> rfl
theorem ms_ext {m n : Ms} (hk : m.k = n.k) (h : ∀ l, get l m = get l n) : m = n := by
  have hS := h .S; have hN := h .N; have hJ := h .J; have hB := h .B; have hI := h .I; have hC := h .C; have hR := h .R; have hT := h .T; have hP := h .P
  simp only [get, V.mk.injEq, true_and, and_true] at hS hN hJ hB hI hC hR hT hP
  exact Ms.ext hk hS hN hJ hB hI hC hR.1 hR.2 hT hP

/-- a kind's letters -/
def letters (k : Int) : List L :=
  if k = 2 then [.S, .N] else if k = 3 then [.S, .N, .B] else if k = 4 then [.S, .N, .B, .C, .R] else if k = 5 then [.B, .I, .T]
  else if k = 6 then [.J, .B, .I, .T] else if k = 7 then [.S] else if k = 8 then [.S, .N] else if k = 9 then [.S, .N, .J, .B, .P]
  else if k = 10 then [.S, .N] else if k = 11 then [.S, .N] else if k = 12 then [.S, .N] else if k = 13 then [.S, .N]
  else if k = 14 then [.B, .C] else if k = 15 then [.J, .B, .C] else if k = 16 then [.J, .B] else []
theorem nd_ite {c : Prop} [Decidable c] {a b : List L} (ha : a.Nodup) (hb : b.Nodup) : (if c then a else b).Nodup := by
  by_cases h : c
  · rw [if_pos h]; exact ha
  · rw [if_neg h]; exact hb
theorem letters_nodup (k : Int) : (letters k).Nodup := by
  unfold letters
  repeat (refine nd_ite (by decide) ?_)
  decide
def least : L → Int
  | .S => 1 | .N => 1 | .J => 1 | .B => 1 | .P => 1 | _ => 0
def most (k : Int) : L → Int
  | .S => 1099511627776 | .N => 1099511627776 | .J => 8 | .B => 1099511627776
  | .I => if k = 6 then 16 else 31 | .C => if k = 15 then 17 else 32 | .R => 7 | .T => 32 | .P => 1024
/-- may bits be? -/
def canonB (code : Int) (b : Nat) : Bool := if code ≠ 0 then decide (b = 0) else decide (b % 9223372036854775808 ≤ 9218868437227405312 ∨ b = 9221120237041090561)
def sz : L → V → Int
  | .T, v => (v.t.size : Int) | .P, v => (v.t.size : Int) | _, v => v.i
def may (k : Int) (l : L) (v : V) : Bool := decide (least l ≤ sz l v ∧ sz l v ≤ most k l) && (decide (l ≠ .R) || canonB v.i v.n)
/-- Check's loop -/
def chk : List L → Ms → Bool
  | [], m => decide (m = zM m.k)
  | l :: ls, m => may m.k l (get l m) && chk ls (set l zV m)
theorem chk_iff (ls : List L) : ∀ m, ls.Nodup → (chk ls m = true ↔ (∀ l ∈ ls, may m.k l (get l m) = true) ∧ ∀ l, l ∉ ls → get l m = zV) := by
  induction ls with
  | nil =>
    intro m _
    simp only [chk, decide_eq_true_eq, List.not_mem_nil, not_false_eq_true, forall_const, false_implies, implies_true, true_and]
    exact ⟨fun h l => by rw [h, get_z], fun h => ms_ext rfl fun l => by rw [h l, get_z]⟩
  | cons l ls ih =>
    intro m hn
    obtain ⟨hl, hn⟩ := List.nodup_cons.mp hn
    rw [chk, Bool.and_eq_true, ih _ hn, k_set]
    constructor
    · rintro ⟨h1, h2, h3⟩
      refine ⟨?_, ?_⟩
      · intro l' h'
        rcases List.mem_cons.mp h' with rfl | h'
        · exact h1
        · rw [← get_ne (l := l) (l' := l') (fun e => hl (e ▸ h')) zV m]; exact h2 _ h'
      · intro l' h'
        rw [List.mem_cons, not_or] at h'
        rw [← get_ne (l := l) (l' := l') (fun e => h'.1 e.symm) zV m]; exact h3 _ h'.2
    · rintro ⟨h1, h2⟩
      refine ⟨h1 _ (List.mem_cons_self), ?_, ?_⟩
      · intro l' h'
        rw [get_ne (l := l) (l' := l') (fun e => hl (e ▸ h')) zV m]; exact h1 _ (List.mem_cons_of_mem _ h')
      · intro l' h'
        by_cases e : l = l'
        · subst e; rw [get_set, nrm_z]
        · rw [get_ne e]; exact h2 _ (by rw [List.mem_cons, not_or]; exact ⟨fun h => e h.symm, h'⟩)
/-- Check's answer -/
def check (m : Ms) : Nat := if m.k < 1 ∨ 16 < m.k then 70 else if m.k = 6 ∧ m.ix = 0 ∧ m.tx.size ≠ 0 then 71 else if chk (letters m.k) m then 0 else 71
theorem check_iff (m : Ms) : check m = 0 ↔ (1 ≤ m.k ∧ m.k ≤ 16) ∧ ¬ (m.k = 6 ∧ m.ix = 0 ∧ m.tx.size ≠ 0) ∧ (∀ l ∈ letters m.k, may m.k l (get l m) = true) ∧ ∀ l, l ∉ letters m.k → get l m = zV := by
  unfold check
  rw [← chk_iff _ _ (letters_nodup _)]
  by_cases h1 : m.k < 1 ∨ 16 < m.k
  · rw [if_pos h1]; constructor
    · intro h; cases h
    · rintro ⟨h, _⟩; omega
  · rw [if_neg h1]
    by_cases h2 : m.k = 6 ∧ m.ix = 0 ∧ m.tx.size ≠ 0
    · rw [if_pos h2]; constructor
      · intro h; cases h
      · rintro ⟨_, h, _⟩; exact absurd h2 h
    · rw [if_neg h2]
      cases hc : chk (letters m.k) m
      · simp
      · simp only [if_true]; exact ⟨fun _ => ⟨by omega, h2, trivial⟩, fun _ => trivial⟩
theorem check_three (m : Ms) : check m = 0 ∨ check m = 70 ∨ check m = 71 := by
  unfold check
  repeat' split
  all_goals simp

/-- a field's bytes -/
def lay : L → V → List UInt8
  | .R, v => Pk.enc v.i.toNat ++ Pk.big8 v.n
  | .T, v => Pk.enc v.t.size ++ v.t.data.toList
  | .P, v => Pk.enc v.t.size ++ v.t.data.toList
  | _, v => Pk.enc v.i.toNat
def body (m : Ms) (ls : List L) : List UInt8 := ls.flatMap fun l => lay l (get l m)
def bytes (m : Ms) : List UInt8 := Pk.enc m.k.toNat ++ body m (letters m.k)

/-- a reader: place and fault -/
abbrev St := Nat × Nat × Ms
def rdN (b : ByteArray) (lim : Nat) (p f : Nat) : Nat × Nat × Nat := if f ≠ 0 then (0, p, f) else if numK b p lim 21 = 0 then (numV b p, numQ b p, 0) else (0, p, numK b p lim 21)
def rdT (b : ByteArray) (lim : Nat) (p f : Nat) : ByteArray × Nat × Nat := if f ≠ 0 then (e0, p, f) else if textK b p lim = 0 then (textV b p, numQ b p + numV b p, 0) else (e0, p, textK b p lim)
def rdB (b : ByteArray) (p f : Nat) : Nat × Nat × Nat := if f ≠ 0 then (0, p, f) else if bitsK b p = 0 then (bitsV b p, p + 8, 0) else (0, p, bitsK b p)
/-- one field read -/
def rd (b : ByteArray) (lim : L → Nat) (l : L) (p f : Nat) : V × Nat × Nat :=
  match l with
  | .R => (⟨((rdN b (lim .R) p f).1 : Int), (rdB b (rdN b (lim .R) p f).2.1 (rdN b (lim .R) p f).2.2).1, e0⟩, (rdB b (rdN b (lim .R) p f).2.1 (rdN b (lim .R) p f).2.2).2)
  | .T => (⟨0, 0, (rdT b (lim .T) p f).1⟩, (rdT b (lim .T) p f).2)
  | .P => (⟨0, 0, (rdT b (lim .P) p f).1⟩, (rdT b (lim .P) p f).2)
  | l => (⟨((rdN b (lim l) p f).1 : Int), 0, e0⟩, (rdN b (lim l) p f).2)
def rds (b : ByteArray) (lim : L → Nat) : List L → Nat → Nat → Ms → Nat × Nat × Ms
  | [], p, f, m => (p, f, m)
  | l :: ls, p, f, m => rds b lim ls (rd b lim l p f).2.1 (rd b lim l p f).2.2 (set l (rd b lim l p f).1 m)
end Wr
end Go.Proofs.Ytlgcimfbhjidgaa
end

section
namespace Go.Proofs.Ytlgcimfbhjidgaa

theorem num_at {b : ByteArray} {p N most above : Nat} {more : List UInt8} (h : rest b p = Pk.enc N ++ more) (hN : N < 18446744073709551616) (hm : N ≤ most) :
    numK b p most above = 0 ∧ numV b p = N ∧ numQ b p = p + (Pk.enc N).length := by
  have hD : Pk.dec 0 0 (rest b p) = (0, N, (Pk.enc N).length) := by
    rw [h, Pk.dec_enc N 0 0 _ (by decide) (by simpa using hN) (.inl rfl)]
    simp
  exact ⟨numK_ok hD hm, by unfold numV; rw [hD], by unfold numQ; rw [hD]⟩
theorem bits_at {b : ByteArray} {p N : Nat} {more : List UInt8} (hp : p ≤ b.size) (h : rest b p = Pk.big8 N ++ more) (hN : N < 18446744073709551616) : bitsK b p = 0 ∧ bitsV b p = N := by
  have hl := congrArg List.length h
  rw [rest_len, List.length_append, show (Pk.big8 N).length = 8 from rfl] at hl
  refine ⟨if_neg (by omega), ?_⟩
  unfold bitsV
  rw [h, List.take_left' (show (Pk.big8 N).length = 8 from rfl)]
  exact Pk.fold8_big8 N hN
theorem text_at {b S : ByteArray} {p most : Nat} {more : List UInt8} (hp : p ≤ b.size) (h : rest b p = Pk.enc S.size ++ S.data.toList ++ more) (hS : S.size ≤ most) (hS' : S.size ≤ 140737488351232) :
    textK b p most = 0 ∧ textV b p = S ∧ numQ b p + numV b p = p + (Pk.enc S.size ++ S.data.toList).length := by
  have h' : rest b p = Pk.enc S.size ++ (S.data.toList ++ more) := by rw [h, List.append_assoc]
  obtain ⟨k0, v0, q0⟩ := num_at (most := most) (above := 23) h' (by omega) hS
  have hl := congrArg List.length h
  have hSl : S.data.toList.length = S.size := rfl
  rw [rest_len, List.length_append, List.length_append, hSl] at hl
  rw [List.length_append, hSl]
  refine ⟨?_, ?_, by rw [q0, v0]; omega⟩
  · unfold textK
    rw [k0, if_neg (by simp), if_neg (by rw [q0, v0]; omega)]
  · unfold textV
    rw [extract_eq, v0, q0]
    have e : rest b (p + (Pk.enc S.size).length) = S.data.toList ++ more := by
      unfold rest at h' ⊢
      rw [← List.drop_drop, h', List.drop_left' rfl]
    rw [e, List.take_left' hSl]
namespace Wr
/-- a field's value within what may be read -/
def fits (lim : L → Nat) : L → V → Prop
  | .R, v => 0 ≤ v.i ∧ v.i.toNat ≤ lim .R ∧ v.n < 18446744073709551616
  | .T, v => v.t.size ≤ lim .T
  | .P, v => v.t.size ≤ lim .P
  | l, v => 0 ≤ v.i ∧ v.i.toNat ≤ lim l
theorem rdN_at {b : ByteArray} {lim p N : Nat} {more : List UInt8} (h : rest b p = Pk.enc N ++ more) (hN : N ≤ lim) (hl : lim < 18446744073709551616) : rdN b lim p 0 = (N, p + (Pk.enc N).length, 0) := by
  obtain ⟨k0, v0, q0⟩ := num_at (most := lim) (above := 21) h (by omega) hN
  unfold rdN; rw [if_neg (by simp), if_pos k0, v0, q0]
theorem rest_next {b : ByteArray} {p : Nat} {a more : List UInt8} (h : rest b p = a ++ more) : rest b (p + a.length) = more := by
  unfold rest at h ⊢; rw [← List.drop_drop, h, List.drop_left' rfl]
theorem rest_in {b : ByteArray} {p : Nat} {a more : List UInt8} (hp : p ≤ b.size) (h : rest b p = a ++ more) : p + a.length ≤ b.size := by
  have := congrArg List.length h
  rw [rest_len, List.length_append] at this; omega
theorem rd_there {b : ByteArray} {lim : L → Nat} (hlim : ∀ l, lim l ≤ 140737488351232) {l : L} {v : V} {p : Nat} {more : List UInt8} (hp : p ≤ b.size) (h : rest b p = lay l v ++ more) (hv : fits lim l v) (hn : nrm l v = v) :
    rd b lim l p 0 = (v, p + (lay l v).length, 0) := by
  have hl := hlim l
  cases l
  case R =>
    obtain ⟨h0, h1, h2⟩ := hv
    have h' : rest b p = Pk.enc v.i.toNat ++ (Pk.big8 v.n ++ more) := by rw [h]; simp [lay]
    have hN := rdN_at (lim := lim .R) h' h1 (by omega)
    obtain ⟨k0, v0⟩ := bits_at (rest_in hp h') (rest_next h') h2
    unfold rd
    simp only [hN]
    unfold rdB
    rw [if_neg (by simp), if_pos k0, v0]
    refine Prod.ext ?_ (Prod.ext ?_ rfl)
    · rw [← hn]; simp [nrm, Int.toNat_of_nonneg h0]
    · simp only [lay, List.length_append]; rw [show (Pk.big8 v.n).length = 8 from rfl]; omega
  case T =>
    have h' : rest b p = Pk.enc v.t.size ++ v.t.data.toList ++ more := h
    obtain ⟨k0, v0, q0⟩ := text_at (most := lim .T) hp h' hv (Nat.le_trans hv hl)
    unfold rd rdT
    simp only [ne_eq, not_true_eq_false, if_false, k0, if_true, v0, q0]
    rw [← hn]; rfl
  case P =>
    have h' : rest b p = Pk.enc v.t.size ++ v.t.data.toList ++ more := h
    obtain ⟨k0, v0, q0⟩ := text_at (most := lim .P) hp h' hv (Nat.le_trans hv hl)
    unfold rd rdT
    simp only [ne_eq, not_true_eq_false, if_false, k0, if_true, v0, q0]
    rw [← hn]; rfl
  all_goals
    obtain ⟨h0, h1⟩ := hv
    have hN := rdN_at h h1 (by omega)
    unfold rd
    simp only [hN]
    refine Prod.ext ?_ rfl
    rw [← hn]; simp [nrm, Int.toNat_of_nonneg h0]
theorem rds_there {b : ByteArray} {lim : L → Nat} (hlim : ∀ l, lim l ≤ 140737488351232) (n : Ms) (more : List UInt8) (ls : List L) : ∀ p m, ls.Nodup → p ≤ b.size → rest b p = body n ls ++ more → (∀ l ∈ ls, fits lim l (get l n)) →
    (rds b lim ls p 0 m).1 = p + (body n ls).length ∧ (rds b lim ls p 0 m).2.1 = 0 ∧ (rds b lim ls p 0 m).2.2.k = m.k ∧ (∀ l ∈ ls, get l (rds b lim ls p 0 m).2.2 = get l n) ∧ ∀ l, l ∉ ls → get l (rds b lim ls p 0 m).2.2 = get l m := by
  induction ls with
  | nil => intro p m _ _ _ _; simp [rds, body]
  | cons l ls ih =>
    intro p m hn hp h hf
    obtain ⟨hl, hn⟩ := List.nodup_cons.mp hn
    have hb : body n (l :: ls) = lay l (get l n) ++ body n ls := by simp [body]
    have h' : rest b p = lay l (get l n) ++ (body n ls ++ more) := by rw [h, hb, List.append_assoc]
    have h1 := rd_there hlim hp h' (hf l List.mem_cons_self) (nrm_get l n)
    obtain ⟨i1, i2, i3, i4, i5⟩ := ih (p + (lay l (get l n)).length) (set l (get l n) m) hn (rest_in hp h') (rest_next h') (fun l' h => hf l' (List.mem_cons_of_mem _ h))
    simp only [rds, h1]
    refine ⟨by rw [i1, hb, List.length_append]; omega, i2, by rw [i3, k_set], ?_, ?_⟩
    · intro l' h'
      rcases List.mem_cons.mp h' with rfl | h'
      · rw [i5 _ hl, get_set, nrm_get]
      · exact i4 _ h'
    · intro l' h'
      rw [List.mem_cons, not_or] at h'
      rw [i5 _ h'.2, get_ne (fun e => h'.1 e.symm)]

theorem rdN_dead {b : ByteArray} {lim p f : Nat} (h : f ≠ 0) : rdN b lim p f = (0, p, f) := if_pos h
theorem rdT_dead {b : ByteArray} {lim p f : Nat} (h : f ≠ 0) : rdT b lim p f = (e0, p, f) := if_pos h
theorem rdB_dead {b : ByteArray} {p f : Nat} (h : f ≠ 0) : rdB b p f = (0, p, f) := if_pos h
theorem rd_dead {b : ByteArray} {lim : L → Nat} {l : L} {p f : Nat} (h : f ≠ 0) : rd b lim l p f = (zV, p, f) := by
  cases l <;> simp only [rd, rdN_dead h, rdT_dead h, rdB_dead h] <;> rfl
theorem rdN_form {b : ByteArray} {lim p : Nat} (hp : p ≤ b.size) (h : (rdN b lim p 0).2.2 = 0) :
    (rdN b lim p 0).2.1 ≤ b.size ∧ (rdN b lim p 0).1 ≤ lim ∧ b.data.toList.take (rdN b lim p 0).2.1 = b.data.toList.take p ++ Pk.enc (rdN b lim p 0).1 := by
  unfold rdN at h ⊢
  rw [if_neg (by simp)] at h ⊢
  by_cases h1 : numK b p lim 21 = 0
  · rw [if_pos h1]
    obtain ⟨q, a1, a2, a3, a4⟩ := num_form hp (by decide) h1
    exact ⟨a1, a2, a4⟩
  · rw [if_neg h1] at h; exact absurd h h1
theorem rdT_form {b : ByteArray} {lim p : Nat} (hp : p ≤ b.size) (h : (rdT b lim p 0).2.2 = 0) :
    (rdT b lim p 0).2.1 ≤ b.size ∧ b.data.toList.take (rdT b lim p 0).2.1 = b.data.toList.take p ++ (Pk.enc (rdT b lim p 0).1.size ++ (rdT b lim p 0).1.data.toList) := by
  unfold rdT at h ⊢
  rw [if_neg (by simp)] at h ⊢
  by_cases h1 : textK b p lim = 0
  · rw [if_pos h1]
    obtain ⟨a1, a2, a3, a4, a5⟩ := text_form hp h1
    exact ⟨a1, a5⟩
  · rw [if_neg h1] at h; exact absurd h h1
theorem rdB_form {b : ByteArray} {p : Nat} (h : (rdB b p 0).2.2 = 0) :
    (rdB b p 0).2.1 ≤ b.size ∧ (rdB b p 0).1 < 18446744073709551616 ∧ b.data.toList.take (rdB b p 0).2.1 = b.data.toList.take p ++ Pk.big8 (rdB b p 0).1 := by
  unfold rdB at h ⊢
  rw [if_neg (by simp)] at h ⊢
  by_cases h1 : bitsK b p = 0
  · rw [if_pos h1]
    obtain ⟨a1, a2, a3, a4⟩ := bits_form h1
    exact ⟨a1, a2, a4⟩
  · rw [if_neg h1] at h; exact absurd h h1
theorem rd_form {b : ByteArray} {lim : L → Nat} {l : L} {p : Nat} (hp : p ≤ b.size) (h : (rd b lim l p 0).2.2 = 0) :
    (rd b lim l p 0).2.1 ≤ b.size ∧ nrm l (rd b lim l p 0).1 = (rd b lim l p 0).1 ∧ b.data.toList.take (rd b lim l p 0).2.1 = b.data.toList.take p ++ lay l (rd b lim l p 0).1 := by
  cases l
  case R =>
    simp only [rd] at h ⊢
    by_cases h1 : (rdN b (lim .R) p 0).2.2 = 0
    · obtain ⟨a1, a2, a3⟩ := rdN_form hp h1
      rw [h1] at h ⊢
      obtain ⟨c1, c2, c3⟩ := rdB_form h
      refine ⟨c1, rfl, ?_⟩
      rw [c3, a3, List.append_assoc]; simp [lay]
    · rw [rdB_dead h1] at h; exact absurd h h1
  case T => obtain ⟨a1, a2⟩ := rdT_form hp h; exact ⟨a1, rfl, a2⟩
  case P => obtain ⟨a1, a2⟩ := rdT_form hp h; exact ⟨a1, rfl, a2⟩
  all_goals
    obtain ⟨a1, a2, a3⟩ := rdN_form hp h
    refine ⟨a1, rfl, ?_⟩
    exact a3
theorem rds_dead (b : ByteArray) (lim : L → Nat) (ls : List L) : ∀ p f m, f ≠ 0 → (rds b lim ls p f m).2.1 = f ∧ (rds b lim ls p f m).1 = p := by
  induction ls with
  | nil => intro p f m _; exact ⟨rfl, rfl⟩
  | cons l ls ih => intro p f m hf; simp only [rds, rd_dead hf]; exact ih _ _ _ hf
theorem rds_form (b : ByteArray) (lim : L → Nat) (ls : List L) : ∀ p m, ls.Nodup → p ≤ b.size → (rds b lim ls p 0 m).2.1 = 0 →
    (rds b lim ls p 0 m).1 ≤ b.size ∧ b.data.toList.take (rds b lim ls p 0 m).1 = b.data.toList.take p ++ body (rds b lim ls p 0 m).2.2 ls ∧ (rds b lim ls p 0 m).2.2.k = m.k ∧ ∀ l, l ∉ ls → get l (rds b lim ls p 0 m).2.2 = get l m := by
  induction ls with
  | nil => intro p m _ hp _; simp [rds, body, hp]
  | cons l ls ih =>
    intro p m hn hp h
    obtain ⟨hl, hn⟩ := List.nodup_cons.mp hn
    simp only [rds] at h ⊢
    by_cases h1 : (rd b lim l p 0).2.2 = 0
    · obtain ⟨a1, a2, a3⟩ := rd_form hp h1
      rw [h1] at h ⊢
      obtain ⟨i1, i2, i3, i4⟩ := ih _ _ hn a1 h
      refine ⟨i1, ?_, by rw [i3, k_set], ?_⟩
      · rw [i2, a3, List.append_assoc]
        congr 1
        simp only [body, List.flatMap_cons]
        rw [i4 _ hl, get_set, a2]
      · intro l' h'
        rw [List.mem_cons, not_or] at h'
        rw [i4 _ h'.2, get_ne (fun e => h'.1 e.symm)]
    · exact absurd ((rds_dead b lim ls _ _ _ h1).1.symm.trans h) h1
end Wr
end Go.Proofs.Ytlgcimfbhjidgaa
end

section
namespace Go.Proofs.Ytlgcimfbhjidgaa
namespace Rc

/-- the fields' letters -/
inductive L | N | J | B | S | F | R | P | T deriving DecidableEq
/-- what stands in a field -/
@[ext] structure V where
  i : Int
  n : Nat
  t : ByteArray
  l : List ByteArray
@[ext] structure Ch where
  k : Int
  n : Int
  jo : Int
  ba : Int
  sl : Int
  li : Int
  rc : Int
  rb : Nat
  pr : ByteArray
  tx : List ByteArray
  deriving DecidableEq
def e0 : ByteArray := ⟨#[]⟩
def zV : V := ⟨0, 0, e0, []⟩
def zC (k : Int) : Ch := ⟨k, 0, 0, 0, 0, 0, 0, 0, e0, []⟩
def get : L → Ch → V
  | .N, c => ⟨c.n, 0, e0, []⟩ | .J, c => ⟨c.jo, 0, e0, []⟩ | .B, c => ⟨c.ba, 0, e0, []⟩ | .S, c => ⟨c.sl, 0, e0, []⟩ | .F, c => ⟨c.li, 0, e0, []⟩
  | .R, c => ⟨c.rc, c.rb, e0, []⟩ | .P, c => ⟨0, 0, c.pr, []⟩ | .T, c => ⟨0, 0, e0, c.tx⟩
def set : L → V → Ch → Ch
  | .N, v, c => { c with n := v.i } | .J, v, c => { c with jo := v.i } | .B, v, c => { c with ba := v.i } | .S, v, c => { c with sl := v.i } | .F, v, c => { c with li := v.i }
  | .R, v, c => { c with rc := v.i, rb := v.n } | .P, v, c => { c with pr := v.t } | .T, v, c => { c with tx := v.l }
def nrm : L → V → V
  | .R, v => ⟨v.i, v.n, e0, []⟩ | .P, v => ⟨0, 0, v.t, []⟩ | .T, v => ⟨0, 0, e0, v.l⟩ | _, v => ⟨v.i, 0, e0, []⟩
theorem get_set (l : L) (v : V) (m : Ch) : get l (set l v m) = nrm l v := by cases l <;> rfl
theorem get_ne {l l' : L} (h : l ≠ l') (v : V) (m : Ch) : get l' (set l v m) = get l' m := by cases l <;> cases l' <;> first | rfl | exact absurd rfl h
theorem k_set (l : L) (v : V) (m : Ch) : (set l v m).k = m.k := by cases l <;> rfl
theorem nrm_get (l : L) (m : Ch) : nrm l (get l m) = get l m := by cases l <;> rfl
theorem get_z (l : L) (k : Int) : get l (zC k) = zV := by cases l <;> rfl
theorem nrm_z (l : L) : nrm l zV = zV := by cases l <;> rfl
theorem ch_ext {m n : Ch} (hk : m.k = n.k) (h : ∀ l, get l m = get l n) : m = n := by
  have hN := h .N; have hJ := h .J; have hB := h .B; have hS := h .S; have hF := h .F; have hR := h .R; have hP := h .P; have hT := h .T
  simp only [get, V.mk.injEq, true_and, and_true] at hS hN hJ hB hF hR hT hP
  exact Ch.ext hk hN hJ hB hS hF hR.1 hR.2 hP hT

/-- a kind's letters -/
def letters (k : Int) : List L :=
  if k = 1 then [.N] else if k = 2 then [.J, .P] else if k = 3 then [.J, .B, .S, .F] else if k = 4 then [.B, .T] else if k = 5 then [.B] else if k = 6 then [.B, .R] else []
theorem nd_ite {c : Prop} [Decidable c] {a b : List L} (ha : a.Nodup) (hb : b.Nodup) : (if c then a else b).Nodup := by
  by_cases h : c
  · rw [if_pos h]; exact ha
  · rw [if_neg h]; exact hb
theorem letters_nodup (k : Int) : (letters k).Nodup := by
  unfold letters
  repeat (refine nd_ite (by decide) ?_)
  decide
def least : L → Nat
  | .S => 0 | .R => 0 | _ => 1
def most : L → Nat
  | .N => 1099511627776 | .J => 8 | .B => 1099511627776 | .S => 7 | .F => 1099511627776 | .R => 7 | .P => 1024 | .T => 8
def sz : L → V → Int
  | .P, v => (v.t.size : Int) | .T, v => (v.l.length : Int) | _, v => v.i
def may (l : L) (v : V) : Bool := decide ((least l : Int) ≤ sz l v ∧ sz l v ≤ (most l : Int)) && (decide (l ≠ .R) || decide (v.i = 0 ∨ v.n = 0)) && (decide (l ≠ .T) || v.l.all fun t => decide (t.size ≤ 32))
/-- what the looker does: (wrong, the change) -/
def look : List L → Bool → Ch → Bool × Ch
  | [], b, c => (b, c)
  | l :: ls, b, c => look ls (b || !may l (get l c)) (set l zV c)
theorem look_iff (ls : List L) : ∀ b c, ls.Nodup → ((look ls b c).1 = false ∧ (look ls b c).2 = zC c.k ↔ b = false ∧ (∀ l ∈ ls, may l (get l c) = true) ∧ ∀ l, l ∉ ls → get l c = zV) := by
  induction ls with
  | nil =>
    intro b m _
    simp only [look, List.not_mem_nil, not_false_eq_true, forall_const, false_implies, implies_true, true_and]
    exact and_congr_right fun _ => ⟨fun h l => by rw [h, get_z], fun h => ch_ext rfl fun l => by rw [h l, get_z]⟩
  | cons l ls ih =>
    intro b m hn
    obtain ⟨hl, hn⟩ := List.nodup_cons.mp hn
    have := ih (b || !may l (get l m)) (set l zV m) hn
    rw [k_set] at this
    rw [look, this]
    simp only [Bool.or_eq_false_iff, Bool.not_eq_false']
    constructor
    · rintro ⟨⟨h0, h1⟩, h2, h3⟩
      refine ⟨h0, ?_, ?_⟩
      · intro l' h'
        rcases List.mem_cons.mp h' with rfl | h'
        · exact h1
        · rw [← get_ne (l := l) (l' := l') (fun e => hl (e ▸ h')) zV m]; exact h2 _ h'
      · intro l' h'
        rw [List.mem_cons, not_or] at h'
        rw [← get_ne (l := l) (l' := l') (fun e => h'.1 e.symm) zV m]; exact h3 _ h'.2
    · rintro ⟨h0, h1, h2⟩
      refine ⟨⟨h0, h1 _ List.mem_cons_self⟩, ?_, ?_⟩
      · intro l' h'
        rw [get_ne (l := l) (l' := l') (fun e => hl (e ▸ h')) zV m]; exact h1 _ (List.mem_cons_of_mem _ h')
      · intro l' h'
        by_cases e : l = l'
        · subst e; rw [get_set, nrm_z]
        · rw [get_ne e]; exact h2 _ (by rw [List.mem_cons, not_or]; exact ⟨fun h => e h.symm, h'⟩)
theorem look_k (ls : List L) : ∀ b c, (look ls b c).2.k = c.k := by
  induction ls with
  | nil => intro b c; rfl
  | cons l ls ih => intro b c; rw [look, ih, k_set]
/-- Check's answer -/
def check (c : Ch) : Nat := if c.k < 1 ∨ 6 < c.k then 80 else if (look (letters c.k) false c).1 = false ∧ (look (letters c.k) false c).2 = zC c.k then 0 else 81
/-- may a change be? -/
def Ok (c : Ch) : Prop := (1 ≤ c.k ∧ c.k ≤ 6) ∧ (∀ l ∈ letters c.k, may l (get l c) = true) ∧ ∀ l, l ∉ letters c.k → get l c = zV
theorem check_iff (c : Ch) : check c = 0 ↔ Ok c := by
  unfold check Ok
  have hl := look_iff (letters c.k) false c (letters_nodup _)
  by_cases h1 : c.k < 1 ∨ 6 < c.k
  · rw [if_pos h1]; constructor
    · intro h; cases h
    · rintro ⟨h, _⟩; omega
  · rw [if_neg h1, ite_eq_left_iff]
    constructor
    · intro h; exact ⟨by omega, (hl.mp (Classical.not_not.mp fun n => absurd (h n) (by decide))).2⟩
    · intro h n; exact absurd (hl.mpr ⟨rfl, h.2⟩) n
theorem check_three (c : Ch) : check c = 0 ∨ check c = 80 ∨ check c = 81 := by
  unfold check
  repeat' split
  all_goals simp
theorem check_80 (c : Ch) : check c = 80 ↔ c.k < 1 ∨ 6 < c.k := by
  unfold check
  by_cases h1 : c.k < 1 ∨ 6 < c.k
  · simp [h1]
  · rw [if_neg h1]
    constructor
    · intro h; split at h <;> cases h
    · intro h; exact absurd h h1

/-- texts as bytes -/
def layT (l : List ByteArray) : List UInt8 := l.flatMap fun t => Pk.enc t.size ++ t.data.toList
/-- a field's bytes -/
def lay : L → V → List UInt8
  | .R, v => Pk.enc v.i.toNat ++ Pk.big8 v.n
  | .P, v => Pk.enc v.t.size ++ v.t.data.toList
  | .T, v => Pk.enc v.l.length ++ layT v.l
  | _, v => Pk.enc v.i.toNat
def body (c : Ch) (ls : List L) : List UInt8 := ls.flatMap fun l => lay l (get l c)
def bytes (c : Ch) : List UInt8 := Pk.enc c.k.toNat ++ body c (letters c.k)
def all (l : List Ch) : List UInt8 := l.flatMap bytes
def row (l : List Ch) : List UInt8 := Pk.enc l.length ++ all l
/-- the first error -/
def first : List Ch → Nat
  | [] => 0
  | c :: l => if check c ≠ 0 then check c else first l
/-- Encode's answer -/
def enco (l : List Ch) : ByteArray × Nat :=
  if l.length = 0 ∨ 16 < l.length then (e0, 82) else if first l ≠ 0 then (e0, first l) else if 2048 < (row l).length then (e0, 82) else (⟨(row l).toArray⟩, 0)
theorem first_iff (l : List Ch) : first l = 0 ↔ ∀ c ∈ l, check c = 0 := by
  induction l with
  | nil => simp [first]
  | cons c l ih =>
    unfold first
    by_cases h : check c = 0
    · simp [h, ih]
    · simp [h]

/-- reading: a number, a text, texts, a result -/
def rN (b : ByteArray) (lo hi p : Nat) : Option (Nat × Nat) := if numK b p hi 21 = 0 ∧ lo ≤ numV b p then some (numV b p, numQ b p) else none
def rT (b : ByteArray) (lo hi p : Nat) : Option (ByteArray × Nat) := if textK b p hi = 0 ∧ lo ≤ (textV b p).size then some (textV b p, numQ b p + numV b p) else none
def rTs (b : ByteArray) : Nat → Nat → Option (List ByteArray × Nat)
  | 0, p => some ([], p)
  | n + 1, p => (rT b 0 32 p).bind fun x => (rTs b n x.2).map fun y => (x.1 :: y.1, y.2)
def rB (b : ByteArray) (c p : Nat) : Option (Nat × Nat) := if bitsK b p = 0 ∧ (c = 0 ∨ bitsV b p = 0) then some (bitsV b p, p + 8) else none
def rF (b : ByteArray) (l : L) (p : Nat) : Option (V × Nat) :=
  match l with
  | .R => (rN b 0 7 p).bind fun x => (rB b x.1 x.2).map fun y => (⟨x.1, y.1, e0, []⟩, y.2)
  | .P => (rT b 1 1024 p).map fun x => (⟨0, 0, x.1, []⟩, x.2)
  | .T => (rN b 1 8 p).bind fun x => (rTs b x.1 x.2).map fun y => (⟨0, 0, e0, y.1⟩, y.2)
  | l => (rN b (least l) (most l) p).map fun x => (⟨x.1, 0, e0, []⟩, x.2)
def rFs (b : ByteArray) : List L → Nat → Ch → Option (Ch × Nat)
  | [], p, c => some (c, p)
  | l :: ls, p, c => (rF b l p).bind fun x => rFs b ls x.2 (set l x.1 c)
def rC (b : ByteArray) (p : Nat) : Option (Ch × Nat) := (rN b 1 6 p).bind fun x => rFs b (letters x.1) x.2 (zC x.1)
def rCs (b : ByteArray) : Nat → Nat → Option (List Ch × Nat)
  | 0, p => some ([], p)
  | n + 1, p => (rC b p).bind fun x => (rCs b n x.2).map fun y => (x.1 :: y.1, y.2)
def deco (b : ByteArray) : Option (List Ch) :=
  if b.size ≤ 2048 then (rN b 1 16 0).bind fun x => (rCs b x.1 x.2).bind fun y => if y.2 = b.size then some y.1 else none else none
end Rc
end Go.Proofs.Ytlgcimfbhjidgaa
end
