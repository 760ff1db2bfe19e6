import Derived.Test.YtjabnddjahhgoaaWrN
namespace Go.Proofs.Ytjabnddjahhgoaa
namespace Rc

/-- the fields' letters -/
inductive L | N | J | B | S | F | R | P | T deriving DecidableEq
/-- what stands in a field -/
@[ext] structure V where
  i : Int
  n : Nat
  t : ByteArray
  l : List ByteArray
@[ext] structure Ch where
  k : Int
  n : Int
  jo : Int
  ba : Int
  sl : Int
  li : Int
  rc : Int
  rb : Nat
  pr : ByteArray
  tx : List ByteArray
  deriving DecidableEq
def e0 : ByteArray := ⟨#[]⟩
def zV : V := ⟨0, 0, e0, []⟩
def zC (k : Int) : Ch := ⟨k, 0, 0, 0, 0, 0, 0, 0, e0, []⟩
def get : L → Ch → V
  | .N, c => ⟨c.n, 0, e0, []⟩ | .J, c => ⟨c.jo, 0, e0, []⟩ | .B, c => ⟨c.ba, 0, e0, []⟩ | .S, c => ⟨c.sl, 0, e0, []⟩ | .F, c => ⟨c.li, 0, e0, []⟩
  | .R, c => ⟨c.rc, c.rb, e0, []⟩ | .P, c => ⟨0, 0, c.pr, []⟩ | .T, c => ⟨0, 0, e0, c.tx⟩
def set : L → V → Ch → Ch
  | .N, v, c => { c with n := v.i } | .J, v, c => { c with jo := v.i } | .B, v, c => { c with ba := v.i } | .S, v, c => { c with sl := v.i } | .F, v, c => { c with li := v.i }
  | .R, v, c => { c with rc := v.i, rb := v.n } | .P, v, c => { c with pr := v.t } | .T, v, c => { c with tx := v.l }
def nrm : L → V → V
  | .R, v => ⟨v.i, v.n, e0, []⟩ | .P, v => ⟨0, 0, v.t, []⟩ | .T, v => ⟨0, 0, e0, v.l⟩ | _, v => ⟨v.i, 0, e0, []⟩
theorem get_set (l : L) (v : V) (m : Ch) : get l (set l v m) = nrm l v := by cases l <;> rfl
theorem get_ne {l l' : L} (h : l ≠ l') (v : V) (m : Ch) : get l' (set l v m) = get l' m := by cases l <;> cases l' <;> first | rfl | exact absurd rfl h
theorem k_set (l : L) (v : V) (m : Ch) : (set l v m).k = m.k := by cases l <;> rfl
theorem nrm_get (l : L) (m : Ch) : nrm l (get l m) = get l m := by cases l <;> rfl
theorem get_z (l : L) (k : Int) : get l (zC k) = zV := by cases l <;> rfl
theorem nrm_z (l : L) : nrm l zV = zV := by cases l <;> rfl
theorem ch_ext {m n : Ch} (hk : m.k = n.k) (h : ∀ l, get l m = get l n) : m = n := by
  have hN := h .N; have hJ := h .J; have hB := h .B; have hS := h .S; have hF := h .F; have hR := h .R; have hP := h .P; have hT := h .T
  simp only [get, V.mk.injEq, true_and, and_true] at hS hN hJ hB hF hR hT hP
  exact Ch.ext hk hN hJ hB hS hF hR.1 hR.2 hP hT

/-- a kind's letters -/
def letters (k : Int) : List L :=
  if k = 1 then [.N] else if k = 2 then [.J, .P] else if k = 3 then [.J, .B, .S, .F] else if k = 4 then [.B, .T] else if k = 5 then [.B] else if k = 6 then [.B, .R] else []
theorem nd_ite {c : Prop} [Decidable c] {a b : List L} (ha : a.Nodup) (hb : b.Nodup) : (if c then a else b).Nodup := by
  by_cases h : c
  · rw [if_pos h]; exact ha
  · rw [if_neg h]; exact hb
theorem letters_nodup (k : Int) : (letters k).Nodup := by
  unfold letters
  repeat (refine nd_ite (by decide) ?_)
  decide
def least : L → Nat
  | .S => 0 | .R => 0 | _ => 1
def most : L → Nat
  | .N => 1099511627776 | .J => 8 | .B => 1099511627776 | .S => 7 | .F => 1099511627776 | .R => 7 | .P => 1024 | .T => 8
def sz : L → V → Int
  | .P, v => (v.t.size : Int) | .T, v => (v.l.length : Int) | _, v => v.i
def may (l : L) (v : V) : Bool := decide ((least l : Int) ≤ sz l v ∧ sz l v ≤ (most l : Int)) && (decide (l ≠ .R) || decide (v.i = 0 ∨ v.n = 0)) && (decide (l ≠ .T) || v.l.all fun t => decide (t.size ≤ 32))
/-- what the looker does: (wrong, the change) -/
def look : List L → Bool → Ch → Bool × Ch
  | [], b, c => (b, c)
  | l :: ls, b, c => look ls (b || !may l (get l c)) (set l zV c)
theorem look_iff (ls : List L) : ∀ b c, ls.Nodup → ((look ls b c).1 = false ∧ (look ls b c).2 = zC c.k ↔ b = false ∧ (∀ l ∈ ls, may l (get l c) = true) ∧ ∀ l, l ∉ ls → get l c = zV) := by
  induction ls with
  | nil =>
    intro b m _
    simp only [look, List.not_mem_nil, not_false_eq_true, forall_const, false_implies, implies_true, true_and]
    exact and_congr_right fun _ => ⟨fun h l => by rw [h, get_z], fun h => ch_ext rfl fun l => by rw [h l, get_z]⟩
  | cons l ls ih =>
    intro b m hn
    obtain ⟨hl, hn⟩ := List.nodup_cons.mp hn
    have := ih (b || !may l (get l m)) (set l zV m) hn
    rw [k_set] at this
    rw [look, this]
    simp only [Bool.or_eq_false_iff, Bool.not_eq_false']
    constructor
    · rintro ⟨⟨h0, h1⟩, h2, h3⟩
      refine ⟨h0, ?_, ?_⟩
      · intro l' h'
        rcases List.mem_cons.mp h' with rfl | h'
        · exact h1
        · rw [← get_ne (l := l) (l' := l') (fun e => hl (e ▸ h')) zV m]; exact h2 _ h'
      · intro l' h'
        rw [List.mem_cons, not_or] at h'
        rw [← get_ne (l := l) (l' := l') (fun e => h'.1 e.symm) zV m]; exact h3 _ h'.2
    · rintro ⟨h0, h1, h2⟩
      refine ⟨⟨h0, h1 _ List.mem_cons_self⟩, ?_, ?_⟩
      · intro l' h'
        rw [get_ne (l := l) (l' := l') (fun e => hl (e ▸ h')) zV m]; exact h1 _ (List.mem_cons_of_mem _ h')
      · intro l' h'
        by_cases e : l = l'
        · subst e; rw [get_set, nrm_z]
        · rw [get_ne e]; exact h2 _ (by rw [List.mem_cons, not_or]; exact ⟨fun h => e h.symm, h'⟩)
theorem look_k (ls : List L) : ∀ b c, (look ls b c).2.k = c.k := by
  induction ls with
  | nil => intro b c; rfl
  | cons l ls ih => intro b c; rw [look, ih, k_set]
/-- Check's answer -/
def check (c : Ch) : Nat := if c.k < 1 ∨ 6 < c.k then 80 else if (look (letters c.k) false c).1 = false ∧ (look (letters c.k) false c).2 = zC c.k then 0 else 81
/-- may a change be? -/
def Ok (c : Ch) : Prop := (1 ≤ c.k ∧ c.k ≤ 6) ∧ (∀ l ∈ letters c.k, may l (get l c) = true) ∧ ∀ l, l ∉ letters c.k → get l c = zV
theorem check_iff (c : Ch) : check c = 0 ↔ Ok c := by
  unfold check Ok
  have hl := look_iff (letters c.k) false c (letters_nodup _)
  by_cases h1 : c.k < 1 ∨ 6 < c.k
  · rw [if_pos h1]; constructor
    · intro h; cases h
    · rintro ⟨h, _⟩; omega
  · rw [if_neg h1, ite_eq_left_iff]
    constructor
    · intro h; exact ⟨by omega, (hl.mp (Classical.not_not.mp fun n => absurd (h n) (by decide))).2⟩
    · intro h n; exact absurd (hl.mpr ⟨rfl, h.2⟩) n
theorem check_three (c : Ch) : check c = 0 ∨ check c = 80 ∨ check c = 81 := by
  unfold check
  repeat' split
  all_goals simp
theorem check_80 (c : Ch) : check c = 80 ↔ c.k < 1 ∨ 6 < c.k := by
  unfold check
  by_cases h1 : c.k < 1 ∨ 6 < c.k
  · simp [h1]
  · rw [if_neg h1]
    constructor
    · intro h; split at h <;> cases h
    · intro h; exact absurd h h1

/-- texts as bytes -/
def layT (l : List ByteArray) : List UInt8 := l.flatMap fun t => Pk.enc t.size ++ t.data.toList
/-- a field's bytes -/
def lay : L → V → List UInt8
  | .R, v => Pk.enc v.i.toNat ++ Pk.big8 v.n
  | .P, v => Pk.enc v.t.size ++ v.t.data.toList
  | .T, v => Pk.enc v.l.length ++ layT v.l
  | _, v => Pk.enc v.i.toNat
def body (c : Ch) (ls : List L) : List UInt8 := ls.flatMap fun l => lay l (get l c)
def bytes (c : Ch) : List UInt8 := Pk.enc c.k.toNat ++ body c (letters c.k)
def all (l : List Ch) : List UInt8 := l.flatMap bytes
def row (l : List Ch) : List UInt8 := Pk.enc l.length ++ all l
/-- the first error -/
def first : List Ch → Nat
  | [] => 0
  | c :: l => if check c ≠ 0 then check c else first l
/-- Encode's answer -/
def enco (l : List Ch) : ByteArray × Nat :=
  if l.length = 0 ∨ 16 < l.length then (e0, 82) else if first l ≠ 0 then (e0, first l) else if 2048 < (row l).length then (e0, 82) else (⟨(row l).toArray⟩, 0)
theorem first_iff (l : List Ch) : first l = 0 ↔ ∀ c ∈ l, check c = 0 := by
  induction l with
  | nil => simp [first]
  | cons c l ih =>
    unfold first
    by_cases h : check c = 0
    · simp [h, ih]
    · simp [h]

/-- reading: a number, a text, texts, a result -/
def rN (b : ByteArray) (lo hi p : Nat) : Option (Nat × Nat) := if numK b p hi 21 = 0 ∧ lo ≤ numV b p then some (numV b p, numQ b p) else none
def rT (b : ByteArray) (lo hi p : Nat) : Option (ByteArray × Nat) := if textK b p hi = 0 ∧ lo ≤ (textV b p).size then some (textV b p, numQ b p + numV b p) else none
def rTs (b : ByteArray) : Nat → Nat → Option (List ByteArray × Nat)
  | 0, p => some ([], p)
  | n + 1, p => (rT b 0 32 p).bind fun x => (rTs b n x.2).map fun y => (x.1 :: y.1, y.2)
def rB (b : ByteArray) (c p : Nat) : Option (Nat × Nat) := if bitsK b p = 0 ∧ (c = 0 ∨ bitsV b p = 0) then some (bitsV b p, p + 8) else none
def rF (b : ByteArray) (l : L) (p : Nat) : Option (V × Nat) :=
  match l with
  | .R => (rN b 0 7 p).bind fun x => (rB b x.1 x.2).map fun y => (⟨x.1, y.1, e0, []⟩, y.2)
  | .P => (rT b 1 1024 p).map fun x => (⟨0, 0, x.1, []⟩, x.2)
  | .T => (rN b 1 8 p).bind fun x => (rTs b x.1 x.2).map fun y => (⟨0, 0, e0, y.1⟩, y.2)
  | l => (rN b (least l) (most l) p).map fun x => (⟨x.1, 0, e0, []⟩, x.2)
def rFs (b : ByteArray) : List L → Nat → Ch → Option (Ch × Nat)
  | [], p, c => some (c, p)
  | l :: ls, p, c => (rF b l p).bind fun x => rFs b ls x.2 (set l x.1 c)
def rC (b : ByteArray) (p : Nat) : Option (Ch × Nat) := (rN b 1 6 p).bind fun x => rFs b (letters x.1) x.2 (zC x.1)
def rCs (b : ByteArray) : Nat → Nat → Option (List Ch × Nat)
  | 0, p => some ([], p)
  | n + 1, p => (rC b p).bind fun x => (rCs b n x.2).map fun y => (x.1 :: y.1, y.2)
def deco (b : ByteArray) : Option (List Ch) :=
  if b.size ≤ 2048 then (rN b 1 16 0).bind fun x => (rCs b x.1 x.2).bind fun y => if y.2 = b.size then some y.1 else none else none
end Rc
end Go.Proofs.Ytjabnddjahhgoaa
