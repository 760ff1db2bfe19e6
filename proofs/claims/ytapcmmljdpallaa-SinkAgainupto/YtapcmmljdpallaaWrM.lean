import Derived.Test.YtapcmmljdpallaaPkT
namespace Go.Proofs.Ytapcmmljdpallaa
namespace Wr

/-- the fields' letters -/
inductive L | S | N | J | B | I | C | R | T | P deriving DecidableEq
/-- what stands in a field -/
@[ext] structure V where
  i : Int
  n : Nat
  t : ByteArray
@[ext] structure Ms where
  k : Int
  se : Int
  nu : Int
  jo : Int
  ba : Int
  ix : Int
  co : Int
  rc : Int
  rb : Nat
  tx : ByteArray
  pr : ByteArray
  deriving DecidableEq
def e0 : ByteArray := ⟨#[]⟩
def zV : V := ⟨0, 0, e0⟩
def zM (k : Int) : Ms := ⟨k, 0, 0, 0, 0, 0, 0, 0, 0, e0, e0⟩
def get : L → Ms → V
  | .S, m => ⟨m.se, 0, e0⟩ | .N, m => ⟨m.nu, 0, e0⟩ | .J, m => ⟨m.jo, 0, e0⟩ | .B, m => ⟨m.ba, 0, e0⟩ | .I, m => ⟨m.ix, 0, e0⟩ | .C, m => ⟨m.co, 0, e0⟩
  | .R, m => ⟨m.rc, m.rb, e0⟩ | .T, m => ⟨0, 0, m.tx⟩ | .P, m => ⟨0, 0, m.pr⟩
def set : L → V → Ms → Ms
  | .S, v, m => { m with se := v.i } | .N, v, m => { m with nu := v.i } | .J, v, m => { m with jo := v.i } | .B, v, m => { m with ba := v.i } | .I, v, m => { m with ix := v.i } | .C, v, m => { m with co := v.i }
  | .R, v, m => { m with rc := v.i, rb := v.n } | .T, v, m => { m with tx := v.t } | .P, v, m => { m with pr := v.t }
def nrm : L → V → V
  | .R, v => ⟨v.i, v.n, e0⟩ | .T, v => ⟨0, 0, v.t⟩ | .P, v => ⟨0, 0, v.t⟩ | _, v => ⟨v.i, 0, e0⟩
theorem get_set (l : L) (v : V) (m : Ms) : get l (set l v m) = nrm l v := by cases l <;> rfl
theorem get_ne {l l' : L} (h : l ≠ l') (v : V) (m : Ms) : get l' (set l v m) = get l' m := by cases l <;> cases l' <;> first | rfl | exact absurd rfl h
theorem k_set (l : L) (v : V) (m : Ms) : (set l v m).k = m.k := by cases l <;> rfl
theorem nrm_get (l : L) (m : Ms) : nrm l (get l m) = get l m := by cases l <;> rfl
theorem get_z (l : L) (k : Int) : get l (zM k) = zV := by cases l <;> rfl
theorem nrm_z (l : L) : nrm l zV = zV := by cases l <;> rfl
theorem ms_ext {m n : Ms} (hk : m.k = n.k) (h : ∀ l, get l m = get l n) : m = n := by
  have hS := h .S; have hN := h .N; have hJ := h .J; have hB := h .B; have hI := h .I; have hC := h .C; have hR := h .R; have hT := h .T; have hP := h .P
  simp only [get, V.mk.injEq, true_and, and_true] at hS hN hJ hB hI hC hR hT hP
  exact Ms.ext hk hS hN hJ hB hI hC hR.1 hR.2 hT hP

/-- a kind's letters -/
def letters (k : Int) : List L :=
  if k = 2 then [.S, .N] else if k = 3 then [.S, .N, .B] else if k = 4 then [.S, .N, .B, .C, .R] else if k = 5 then [.B, .I, .T]
  else if k = 6 then [.J, .B, .I, .T] else if k = 7 then [.S] else if k = 8 then [.S, .N] else if k = 9 then [.S, .N, .J, .B, .P]
  else if k = 10 then [.S, .N] else if k = 11 then [.S, .N] else if k = 12 then [.S, .N] else if k = 13 then [.S, .N]
  else if k = 14 then [.B, .C] else if k = 15 then [.J, .B, .C] else if k = 16 then [.J, .B] else []
theorem nd_ite {c : Prop} [Decidable c] {a b : List L} (ha : a.Nodup) (hb : b.Nodup) : (if c then a else b).Nodup := by
  by_cases h : c
  · rw [if_pos h]; exact ha
  · rw [if_neg h]; exact hb
theorem letters_nodup (k : Int) : (letters k).Nodup := by
  unfold letters
  repeat (refine nd_ite (by decide) ?_)
  decide
def least : L → Int
  | .S => 1 | .N => 1 | .J => 1 | .B => 1 | .P => 1 | _ => 0
def most (k : Int) : L → Int
  | .S => 1099511627776 | .N => 1099511627776 | .J => 8 | .B => 1099511627776
  | .I => if k = 6 then 16 else 31 | .C => if k = 15 then 17 else 32 | .R => 7 | .T => 32 | .P => 1024
/-- may bits be? -/
def canonB (code : Int) (b : Nat) : Bool := if code ≠ 0 then decide (b = 0) else decide (b % 9223372036854775808 ≤ 9218868437227405312 ∨ b = 9221120237041090561)
def sz : L → V → Int
  | .T, v => (v.t.size : Int) | .P, v => (v.t.size : Int) | _, v => v.i
def may (k : Int) (l : L) (v : V) : Bool := decide (least l ≤ sz l v ∧ sz l v ≤ most k l) && (decide (l ≠ .R) || canonB v.i v.n)
/-- Check's loop -/
def chk : List L → Ms → Bool
  | [], m => decide (m = zM m.k)
  | l :: ls, m => may m.k l (get l m) && chk ls (set l zV m)
theorem chk_iff (ls : List L) : ∀ m, ls.Nodup → (chk ls m = true ↔ (∀ l ∈ ls, may m.k l (get l m) = true) ∧ ∀ l, l ∉ ls → get l m = zV) := by
  induction ls with
  | nil =>
    intro m _
    simp only [chk, decide_eq_true_eq, List.not_mem_nil, not_false_eq_true, forall_const, false_implies, implies_true, true_and]
    exact ⟨fun h l => by rw [h, get_z], fun h => ms_ext rfl fun l => by rw [h l, get_z]⟩
  | cons l ls ih =>
    intro m hn
    obtain ⟨hl, hn⟩ := List.nodup_cons.mp hn
    rw [chk, Bool.and_eq_true, ih _ hn, k_set]
    constructor
    · rintro ⟨h1, h2, h3⟩
      refine ⟨?_, ?_⟩
      · intro l' h'
        rcases List.mem_cons.mp h' with rfl | h'
        · exact h1
        · rw [← get_ne (l := l) (l' := l') (fun e => hl (e ▸ h')) zV m]; exact h2 _ h'
      · intro l' h'
        rw [List.mem_cons, not_or] at h'
        rw [← get_ne (l := l) (l' := l') (fun e => h'.1 e.symm) zV m]; exact h3 _ h'.2
    · rintro ⟨h1, h2⟩
      refine ⟨h1 _ (List.mem_cons_self), ?_, ?_⟩
      · intro l' h'
        rw [get_ne (l := l) (l' := l') (fun e => hl (e ▸ h')) zV m]; exact h1 _ (List.mem_cons_of_mem _ h')
      · intro l' h'
        by_cases e : l = l'
        · subst e; rw [get_set, nrm_z]
        · rw [get_ne e]; exact h2 _ (by rw [List.mem_cons, not_or]; exact ⟨fun h => e h.symm, h'⟩)
/-- Check's answer -/
def check (m : Ms) : Nat := if m.k < 1 ∨ 16 < m.k then 70 else if m.k = 6 ∧ m.ix = 0 ∧ m.tx.size ≠ 0 then 71 else if chk (letters m.k) m then 0 else 71
theorem check_iff (m : Ms) : check m = 0 ↔ (1 ≤ m.k ∧ m.k ≤ 16) ∧ ¬ (m.k = 6 ∧ m.ix = 0 ∧ m.tx.size ≠ 0) ∧ (∀ l ∈ letters m.k, may m.k l (get l m) = true) ∧ ∀ l, l ∉ letters m.k → get l m = zV := by
  unfold check
  rw [← chk_iff _ _ (letters_nodup _)]
  by_cases h1 : m.k < 1 ∨ 16 < m.k
  · rw [if_pos h1]; constructor
    · intro h; cases h
    · rintro ⟨h, _⟩; omega
  · rw [if_neg h1]
    by_cases h2 : m.k = 6 ∧ m.ix = 0 ∧ m.tx.size ≠ 0
    · rw [if_pos h2]; constructor
      · intro h; cases h
      · rintro ⟨_, h, _⟩; exact absurd h2 h
    · rw [if_neg h2]
      cases hc : chk (letters m.k) m
      · simp
      · simp only [if_true]; exact ⟨fun _ => ⟨by omega, h2, trivial⟩, fun _ => trivial⟩
theorem check_three (m : Ms) : check m = 0 ∨ check m = 70 ∨ check m = 71 := by
  unfold check
  repeat' split
  all_goals simp

/-- a field's bytes -/
def lay : L → V → List UInt8
  | .R, v => Pk.enc v.i.toNat ++ Pk.big8 v.n
  | .T, v => Pk.enc v.t.size ++ v.t.data.toList
  | .P, v => Pk.enc v.t.size ++ v.t.data.toList
  | _, v => Pk.enc v.i.toNat
def body (m : Ms) (ls : List L) : List UInt8 := ls.flatMap fun l => lay l (get l m)
def bytes (m : Ms) : List UInt8 := Pk.enc m.k.toNat ++ body m (letters m.k)

/-- a reader: place and fault -/
abbrev St := Nat × Nat × Ms
def rdN (b : ByteArray) (lim : Nat) (p f : Nat) : Nat × Nat × Nat := if f ≠ 0 then (0, p, f) else if numK b p lim 21 = 0 then (numV b p, numQ b p, 0) else (0, p, numK b p lim 21)
def rdT (b : ByteArray) (lim : Nat) (p f : Nat) : ByteArray × Nat × Nat := if f ≠ 0 then (e0, p, f) else if textK b p lim = 0 then (textV b p, numQ b p + numV b p, 0) else (e0, p, textK b p lim)
def rdB (b : ByteArray) (p f : Nat) : Nat × Nat × Nat := if f ≠ 0 then (0, p, f) else if bitsK b p = 0 then (bitsV b p, p + 8, 0) else (0, p, bitsK b p)
/-- one field read -/
def rd (b : ByteArray) (lim : L → Nat) (l : L) (p f : Nat) : V × Nat × Nat :=
  match l with
  | .R => (⟨((rdN b (lim .R) p f).1 : Int), (rdB b (rdN b (lim .R) p f).2.1 (rdN b (lim .R) p f).2.2).1, e0⟩, (rdB b (rdN b (lim .R) p f).2.1 (rdN b (lim .R) p f).2.2).2)
  | .T => (⟨0, 0, (rdT b (lim .T) p f).1⟩, (rdT b (lim .T) p f).2)
  | .P => (⟨0, 0, (rdT b (lim .P) p f).1⟩, (rdT b (lim .P) p f).2)
  | l => (⟨((rdN b (lim l) p f).1 : Int), 0, e0⟩, (rdN b (lim l) p f).2)
def rds (b : ByteArray) (lim : L → Nat) : List L → Nat → Nat → Ms → Nat × Nat × Ms
  | [], p, f, m => (p, f, m)
  | l :: ls, p, f, m => rds b lim ls (rd b lim l p f).2.1 (rd b lim l p f).2.2 (set l (rd b lim l p f).1 m)
end Wr
end Go.Proofs.Ytapcmmljdpallaa
