import Derived.Test.YtlgcimfbhjidgaaMgAR

section
namespace Go.Proofs.Ytlgcimfbhjidgaa
open Go.RowKit
open Rc (L V Ch)

def aD (p f : Nat) : Int := if (f : Int) = 0 then 0 else (p : Int)
theorem aDn {p f : Nat} (h : f ≠ 0) : aD p f = p := if_neg (by omega)
theorem dnumR {w : World} {G p f most : Nat} {b : ByteArray} (h : RR w G 0 b p f (aD p f)) (hp : p ≤ b.size) (hb : b.size ≤ 140737488351232) :
    Calls Try.prog 10 #[.pointer (some ⟨G, 0, none⟩), .int .u64 (most : Int)] w fun e w' => e = .returned (.int .u64 ((Wr.rdN b most p f).1 : Int)) ∧ RR w' G 0 b ((Wr.rdN b most p f).2.1 : Int) ((Wr.rdN b most p f).2.2 : Int) (aD (Wr.rdN b most p f).2.1 (Wr.rdN b most p f).2.2) ∧ RW G 0 w w' := by
  by_cases hf : f = 0
  · subst hf
    refine (qnum_live (most := most) h hp hb).mono ?_
    rintro e w' (⟨hk, e1, e2, e3⟩ | ⟨hk, e1, e2, e3⟩)
    · unfold Wr.rdN; rw [if_neg (by simp), if_pos hk]; exact ⟨e1, e2, e3⟩
    · unfold Wr.rdN; rw [if_neg (by simp), if_neg hk]; exact ⟨e1, by rw [aDn hk]; exact e2, e3⟩
  · refine (qnum_dead (most := (most : Int)) h (by omega)).mono ?_
    rintro e w' ⟨e1, e2, e3⟩
    rw [Wr.rdN_dead hf]; exact ⟨e1, e2, e3⟩
theorem dtextR {w : World} {G p f most : Nat} {b : ByteArray} (hm : most ≤ 9223372036854775807) (h : RR w G 0 b p f (aD p f)) (hp : p ≤ b.size) (hb : b.size ≤ 140737488351232) :
    Calls Try.prog 22 #[.pointer (some ⟨G, 0, none⟩), .int .i64 (most : Int)] w fun e w' => e = .returned (.string (Wr.rdT b most p f).1) ∧ RR w' G 0 b ((Wr.rdT b most p f).2.1 : Int) ((Wr.rdT b most p f).2.2 : Int) (aD (Wr.rdT b most p f).2.1 (Wr.rdT b most p f).2.2) ∧ RW G 0 w w' := by
  by_cases hf : f = 0
  · subst hf
    refine (qtext_live (most := (most : Int)) (by omega) h hp hb).mono ?_
    rw [show ((most : Int)).toNat = most from rfl]
    rintro e w' (⟨hk, e1, e2, e3⟩ | ⟨hk, e1, e2, e3⟩)
    · unfold Wr.rdT; rw [if_neg (by simp), if_pos hk]; exact ⟨e1, e2, e3⟩
    · unfold Wr.rdT; rw [if_neg (by simp), if_neg hk]; exact ⟨e1, by rw [aDn hk]; exact e2, e3⟩
  · refine (qtext_dead (most := (most : Int)) (by omega) h (by omega)).mono ?_
    rintro e w' ⟨e1, e2, e3⟩
    rw [Wr.rdT_dead hf]; exact ⟨e1, e2, e3⟩
theorem dbitsR {w : World} {G p f : Nat} {b : ByteArray} (h : RR w G 0 b p f (aD p f)) (hp : p ≤ b.size) (hb : b.size ≤ 140737488351232) :
    Calls Try.prog 24 #[.pointer (some ⟨G, 0, none⟩)] w fun e w' => e = .returned (.int .u64 ((Wr.rdB b p f).1 : Int)) ∧ RR w' G 0 b ((Wr.rdB b p f).2.1 : Int) ((Wr.rdB b p f).2.2 : Int) (aD (Wr.rdB b p f).2.1 (Wr.rdB b p f).2.2) ∧ RW G 0 w w' := by
  by_cases hf : f = 0
  · subst hf
    refine (qbits_live h hp hb).mono ?_
    rintro e w' (⟨hk, e1, e2, e3⟩ | ⟨hk, e1, e2, e3⟩)
    · unfold Wr.rdB; rw [if_neg (by simp), if_pos hk]; exact ⟨e1, e2, e3⟩
    · unfold Wr.rdB; rw [if_neg (by simp), if_neg hk]; exact ⟨e1, by rw [aDn hk]; exact e2, e3⟩
  · refine (qbits_dead h (by omega)).mono ?_
    rintro e w' ⟨e1, e2, e3⟩
    rw [Wr.rdB_dead hf]; exact ⟨e1, e2, e3⟩
namespace Rc
def rdL (b : ByteArray) (lim p f : Nat) : Nat × Nat × Nat := if f ≠ 0 then (0, p, f) else if numK b p lim 23 = 0 then (numV b p, numQ b p, 0) else (0, p, numK b p lim 23)
theorem rdL_dead {b : ByteArray} {lim p f : Nat} (h : f ≠ 0) : rdL b lim p f = (0, p, f) := if_pos h
end Rc
theorem dlistR {w : World} {G p f most : Nat} {b : ByteArray} (hm : most ≤ 9223372036854775807) (h : RR w G 0 b p f (aD p f)) (hp : p ≤ b.size) (hb : b.size ≤ 140737488351232) :
    Calls Try.prog 23 #[.pointer (some ⟨G, 0, none⟩), .int .i64 (most : Int)] w fun e w' => e = .returned (.int .i64 ((Rc.rdL b most p f).1 : Int)) ∧ RR w' G 0 b ((Rc.rdL b most p f).2.1 : Int) ((Rc.rdL b most p f).2.2 : Int) (aD (Rc.rdL b most p f).2.1 (Rc.rdL b most p f).2.2) ∧ RW G 0 w w' := by
  by_cases hf : f = 0
  · subst hf
    refine (qlist_live (most := (most : Int)) (by omega) h hp hb).mono ?_
    rw [show ((most : Int)).toNat = most from rfl]
    rintro e w' (⟨hk, e1, e2, e3⟩ | ⟨hk, e1, e2, e3⟩)
    · unfold Rc.rdL; rw [if_neg (by simp), if_pos hk]; exact ⟨e1, e2, e3⟩
    · unfold Rc.rdL; rw [if_neg (by simp), if_neg hk]; exact ⟨e1, by rw [aDn hk]; exact e2, e3⟩
  · refine (qlist_dead (most := (most : Int)) (by omega) h (by omega)).mono ?_
    rintro e w' ⟨e1, e2, e3⟩
    rw [Rc.rdL_dead hf]; exact ⟨e1, e2, e3⟩
theorem rdT_leR (b : ByteArray) (lim p f : Nat) (hp : p ≤ b.size) : (Wr.rdT b lim p f).2.1 ≤ b.size := by
  by_cases hf : f ≠ 0
  · rw [Wr.rdT_dead hf]; exact hp
  · rw [Decidable.not_not] at hf; subst hf
    by_cases h : (Wr.rdT b lim p 0).2.2 = 0
    · exact (Wr.rdT_form hp h).1
    · unfold Wr.rdT at h ⊢
      rw [if_neg (by simp)] at h ⊢
      by_cases h1 : textK b p lim = 0
      · rw [if_pos h1] at h; exact absurd rfl h
      · rw [if_neg h1]; exact hp
theorem rdB_leR (b : ByteArray) (p f : Nat) (hp : p ≤ b.size) : (Wr.rdB b p f).2.1 ≤ b.size := by
  by_cases hf : f ≠ 0
  · rw [Wr.rdB_dead hf]; exact hp
  · rw [Decidable.not_not] at hf; subst hf
    by_cases h : (Wr.rdB b p 0).2.2 = 0
    · exact (Wr.rdB_form h).1
    · unfold Wr.rdB at h ⊢
      rw [if_neg (by simp)] at h ⊢
      by_cases h1 : bitsK b p = 0
      · rw [if_pos h1] at h; exact absurd rfl h
      · rw [if_neg h1]; exact hp
namespace Rc
theorem numK_any {b : ByteArray} {p hi a a' : Nat} (ha : a ≠ 0) (ha' : a' ≠ 0) : numK b p hi a = 0 ↔ numK b p hi a' = 0 := by
  unfold numK
  split
  · exact Iff.rfl
  · split
    · exact ⟨fun h => absurd h ha, fun h => absurd h ha'⟩
    · exact Iff.rfl
theorem rdL_N (b : ByteArray) (lim p f : Nat) : (rdL b lim p f).1 = (Wr.rdN b lim p f).1 ∧ ((rdL b lim p f).2.1 = (Wr.rdN b lim p f).2.1) ∧ ((rdL b lim p f).2.2 = 0 ↔ (Wr.rdN b lim p f).2.2 = 0) := by
  unfold rdL Wr.rdN
  by_cases hf : f ≠ 0
  · rw [if_pos hf, if_pos hf]; exact ⟨rfl, rfl, Iff.rfl⟩
  · rw [if_neg hf, if_neg hf]
    have h := numK_any (b := b) (p := p) (hi := lim) (a := 23) (a' := 21) (by decide) (by decide)
    by_cases h1 : numK b p lim 23 = 0
    · rw [if_pos h1, if_pos (h.1 h1)]; exact ⟨rfl, rfl, Iff.rfl⟩
    · rw [if_neg h1, if_neg (fun e => h1 (h.2 e))]; exact ⟨rfl, rfl, h⟩
theorem rdL_le (b : ByteArray) (lim p f : Nat) (hp : p ≤ b.size) : (rdL b lim p f).1 ≤ lim ∧ (rdL b lim p f).2.1 ≤ b.size := by
  obtain ⟨h1, h2, _⟩ := rdL_N b lim p f
  rw [h1, h2]
  exact Wr.rdN_le b lim p f hp
/-- texts that are read -/
def dTs (b : ByteArray) : Nat → Nat → Nat → List ByteArray × Nat × Nat
  | 0, p, f => ([], p, f)
  | n + 1, p, f => ((dTs b n p f).1 ++ [(Wr.rdT b 32 (dTs b n p f).2.1 (dTs b n p f).2.2).1], (Wr.rdT b 32 (dTs b n p f).2.1 (dTs b n p f).2.2).2)
theorem dTs_cons (b : ByteArray) : ∀ n p f, dTs b (n + 1) p f = ((Wr.rdT b 32 p f).1 :: (dTs b n (Wr.rdT b 32 p f).2.1 (Wr.rdT b 32 p f).2.2).1, (dTs b n (Wr.rdT b 32 p f).2.1 (Wr.rdT b 32 p f).2.2).2)
  | 0, _, _ => rfl
  | n + 1, p, f => by
    rw [dTs, dTs_cons b n p f]
    rfl
theorem dTs_len (b : ByteArray) : ∀ n p f, (dTs b n p f).1.length = n
  | 0, _, _ => rfl
  | n + 1, p, f => by rw [dTs, List.length_append, dTs_len b n p f]; rfl
theorem dTs_le (b : ByteArray) : ∀ n p f, p ≤ b.size → (dTs b n p f).2.1 ≤ b.size
  | 0, _, _, h => h
  | n + 1, p, f, h => rdT_leR _ _ _ _ (dTs_le b n p f h)
def M : Nat := 1099511627776
def dg1 (b : ByteArray) (p f : Nat) : Ch × Nat × Nat := ({ zC 1 with n := ((Wr.rdN b M p f).1 : Int) }, (Wr.rdN b M p f).2)
def dg2 (b : ByteArray) (p f : Nat) : Ch × Nat × Nat := ({ zC 2 with jo := ((Wr.rdN b 8 p f).1 : Int), pr := (Wr.rdT b 1024 (Wr.rdN b 8 p f).2.1 (Wr.rdN b 8 p f).2.2).1 }, (Wr.rdT b 1024 (Wr.rdN b 8 p f).2.1 (Wr.rdN b 8 p f).2.2).2)
def dg3 (b : ByteArray) (p f : Nat) : Ch × Nat × Nat :=
  let x := Wr.rdN b 8 p f
  let y := Wr.rdN b M x.2.1 x.2.2
  let z := Wr.rdN b 7 y.2.1 y.2.2
  let u := Wr.rdN b M z.2.1 z.2.2
  ({ zC 3 with jo := (x.1 : Int), ba := (y.1 : Int), sl := (z.1 : Int), li := (u.1 : Int) }, u.2)
def dg4 (b : ByteArray) (p f : Nat) : Ch × Nat × Nat :=
  let x := Wr.rdN b M p f
  let y := rdL b 8 x.2.1 x.2.2
  let z := dTs b y.1 y.2.1 y.2.2
  ({ zC 4 with ba := (x.1 : Int), tx := z.1 }, z.2)
def dg5 (b : ByteArray) (p f : Nat) : Ch × Nat × Nat := ({ zC 5 with ba := ((Wr.rdN b M p f).1 : Int) }, (Wr.rdN b M p f).2)
def dg6 (b : ByteArray) (p f : Nat) : Ch × Nat × Nat :=
  let x := Wr.rdN b M p f
  let y := Wr.rdN b 7 x.2.1 x.2.2
  let z := Wr.rdB b y.2.1 y.2.2
  ({ zC 6 with ba := (x.1 : Int), rc := (y.1 : Int), rb := z.1 }, z.2)
/-- a change of this kind, read -/
def dgK (b : ByteArray) (k p f : Nat) : Ch × Nat × Nat :=
  if k = 1 then dg1 b p f else if k = 2 then dg2 b p f else if k = 3 then dg3 b p f else if k = 4 then dg4 b p f else if k = 5 then dg5 b p f else if k = 6 then dg6 b p f else (zC k, p, f)
def dget (b : ByteArray) (p f : Nat) : Ch × Nat × Nat := dgK b (Wr.rdN b 6 p f).1 (Wr.rdN b 6 p f).2.1 (Wr.rdN b 6 p f).2.2
/-- changes, read -/
def dCs (b : ByteArray) : Nat → Nat → Nat → List Ch × Nat × Nat
  | 0, p, f => ([], p, f)
  | n + 1, p, f => ((dCs b n p f).1 ++ [(dget b (dCs b n p f).2.1 (dCs b n p f).2.2).1], (dget b (dCs b n p f).2.1 (dCs b n p f).2.2).2)
theorem dCs_cons (b : ByteArray) : ∀ n p f, dCs b (n + 1) p f = ((dget b p f).1 :: (dCs b n (dget b p f).2.1 (dget b p f).2.2).1, (dCs b n (dget b p f).2.1 (dget b p f).2.2).2)
  | 0, _, _ => rfl
  | n + 1, p, f => by
    rw [dCs, dCs_cons b n p f]
    rfl
theorem dCs_len (b : ByteArray) : ∀ n p f, (dCs b n p f).1.length = n
  | 0, _, _ => rfl
  | n + 1, p, f => by rw [dCs, List.length_append, dCs_len b n p f]; rfl
/-- the row that the document reads -/
def dDec (b : ByteArray) : List Ch := (dCs b (Wr.rdN b 16 0 0).1 (Wr.rdN b 16 0 0).2.1 (Wr.rdN b 16 0 0).2.2).1
theorem dgK_le (b : ByteArray) (k p f : Nat) (hp : p ≤ b.size) : (dgK b k p f).2.1 ≤ b.size := by
  have n1 := fun lim p f hp => (Wr.rdN_le b lim p f hp).2
  have t1 := rdT_leR b
  unfold dgK
  split
  · exact n1 _ _ _ hp
  split
  · exact t1 _ _ _ (n1 _ _ _ hp)
  split
  · exact n1 _ _ _ (n1 _ _ _ (n1 _ _ _ (n1 _ _ _ hp)))
  split
  · exact dTs_le b _ _ _ (rdL_le b _ _ _ (n1 _ _ _ hp)).2
  split
  · exact n1 _ _ _ hp
  split
  · exact rdB_leR b _ _ (n1 _ _ _ (n1 _ _ _ hp))
  · exact hp
theorem dget_le (b : ByteArray) (p f : Nat) (hp : p ≤ b.size) : (dget b p f).2.1 ≤ b.size := dgK_le b _ _ _ (Wr.rdN_le b 6 p f hp).2
theorem dCs_le (b : ByteArray) : ∀ n p f, p ≤ b.size → (dCs b n p f).2.1 ≤ b.size
  | 0, _, _, h => h
  | n + 1, p, f, h => dget_le b _ _ (dCs_le b n p f h)
theorem dgK_rb (b : ByteArray) (k p f : Nat) : (dgK b k p f).1.rb < 18446744073709551616 := by
  unfold dgK
  split
  · show (0 : Nat) < _; decide
  split
  · show (0 : Nat) < _; decide
  split
  · show (0 : Nat) < _; decide
  split
  · show (0 : Nat) < _; decide
  split
  · show (0 : Nat) < _; decide
  split
  · exact Wr.rdB_lt _ _ _
  · show (0 : Nat) < _; decide
theorem dgK_tx (b : ByteArray) (k p f : Nat) (hp : p ≤ b.size) : (dgK b k p f).1.tx.length ≤ 8 := by
  unfold dgK
  split
  · show (0 : Nat) ≤ _; decide
  split
  · show (0 : Nat) ≤ _; decide
  split
  · show (0 : Nat) ≤ _; decide
  split
  · show (dTs b _ _ _).1.length ≤ 8
    rw [dTs_len]
    exact (rdL_le b 8 _ _ (Wr.rdN_le b M p f hp).2).1
  split
  · show (0 : Nat) ≤ _; decide
  split
  · show (0 : Nat) ≤ _; decide
  · show (0 : Nat) ≤ _; decide
theorem dCs_mem (b : ByteArray) : ∀ n p f, p ≤ b.size → ∀ c ∈ (dCs b n p f).1, c.rb < 18446744073709551616 ∧ c.tx.length ≤ 8
  | 0, _, _, _, c, h => by cases h
  | n + 1, p, f, hp, c, h => by
    rw [dCs, List.mem_append, List.mem_singleton] at h
    rcases h with h | rfl
    · exact dCs_mem b n p f hp c h
    · exact ⟨dgK_rb _ _ _ _, dgK_tx _ _ _ _ (Wr.rdN_le b 6 _ _ (dCs_le b n p f hp)).2⟩
theorem dDec_mem (b : ByteArray) : ∀ c ∈ dDec b, c.rb < 18446744073709551616 ∧ c.tx.length ≤ 8 := dCs_mem b _ _ _ (Wr.rdN_le b 16 0 0 (Nat.zero_le _)).2
theorem dDec_len (b : ByteArray) : (dDec b).length ≤ 16 := by unfold dDec; rw [dCs_len]; exact (Wr.rdN_le b 16 0 0 (Nat.zero_le _)).1

/-! what the program's reading takes, the document's reads alike -/
theorem rN_rd {b : ByteArray} {lo hi p : Nat} {x : Nat × Nat} (h : rN b lo hi p = some x) : Wr.rdN b hi p 0 = (x.1, x.2, 0) := by
  unfold rN at h
  split at h
  · rename_i h1
    cases h
    unfold Wr.rdN
    rw [if_neg (by simp), if_pos h1.1]
  · cases h
theorem rN_rdL {b : ByteArray} {lo hi p : Nat} {x : Nat × Nat} (h : rN b lo hi p = some x) : rdL b hi p 0 = (x.1, x.2, 0) := by
  unfold rN at h
  split at h
  · rename_i h1
    cases h
    unfold rdL
    rw [if_neg (by simp), if_pos ((numK_any (by decide) (by decide)).1 h1.1)]
  · cases h
theorem rT_rd {b : ByteArray} {lo hi p : Nat} {x : ByteArray × Nat} (h : rT b lo hi p = some x) : Wr.rdT b hi p 0 = (x.1, x.2, 0) := by
  unfold rT at h
  split at h
  · rename_i h1
    cases h
    unfold Wr.rdT
    rw [if_neg (by simp), if_pos h1.1]
  · cases h
theorem rB_rd {b : ByteArray} {c p : Nat} {x : Nat × Nat} (h : rB b c p = some x) : Wr.rdB b p 0 = (x.1, x.2, 0) := by
  unfold rB at h
  split at h
  · rename_i h1
    cases h
    unfold Wr.rdB
    rw [if_neg (by simp), if_pos h1.1]
  · cases h
theorem rTs_rd (b : ByteArray) : ∀ (n p : Nat) (x : List ByteArray × Nat), rTs b n p = some x → dTs b n p 0 = (x.1, x.2, 0)
  | 0, p, x, h => by cases h; rfl
  | n + 1, p, x, h => by
    unfold rTs at h
    rw [Option.bind_eq_some_iff] at h
    obtain ⟨y, h1, h2⟩ := h
    rw [Option.map_eq_some_iff] at h2
    obtain ⟨z, h2, rfl⟩ := h2
    rw [dTs_cons, rT_rd h1]
    simp only
    rw [rTs_rd b n y.2 z h2]
theorem rFs_one {b : ByteArray} {l : L} {p : Nat} {c : Ch} {x : Ch × Nat} (h : rFs b [l] p c = some x) : ∃ y, rF b l p = some y ∧ x = (set l y.1 c, y.2) := by
  unfold rFs at h
  rw [Option.bind_eq_some_iff] at h
  obtain ⟨y, h1, h2⟩ := h
  unfold rFs at h2
  cases h2
  exact ⟨y, h1, rfl⟩
theorem rFs_cons {b : ByteArray} {l : L} {ls : List L} {p : Nat} {c : Ch} {x : Ch × Nat} (h : rFs b (l :: ls) p c = some x) : ∃ y, rF b l p = some y ∧ rFs b ls y.2 (set l y.1 c) = some x := by
  rw [rFs, Option.bind_eq_some_iff] at h
  exact h
theorem rF_num {b : ByteArray} {l : L} {p : Nat} {y : V × Nat} (h : rF b l p = some y) (hl : l = .N ∨ l = .J ∨ l = .B ∨ l = .S ∨ l = .F) : Wr.rdN b (most l) p 0 = (y.1.i.toNat, y.2, 0) ∧ y.1 = ⟨(y.1.i.toNat : Int), 0, e0, []⟩ := by
  have h : (rN b (least l) (most l) p).map (fun x => ((⟨x.1, 0, e0, []⟩ : V), x.2)) = some y := by
    rcases hl with rfl | rfl | rfl | rfl | rfl <;> exact h
  rw [Option.map_eq_some_iff] at h
  obtain ⟨x, h1, rfl⟩ := h
  exact ⟨rN_rd h1, rfl⟩
theorem rC_rd {b : ByteArray} {p : Nat} {x : Ch × Nat} (h : rC b p = some x) : dget b p 0 = (x.1, x.2, 0) := by
  unfold rC at h
  rw [Option.bind_eq_some_iff] at h
  obtain ⟨⟨k, q⟩, h1, h2⟩ := h
  unfold dget
  rw [rN_rd h1]
  simp only at h2 ⊢
  have hk : 1 ≤ k ∧ k ≤ 6 := by
    have h3 := h1
    unfold rN at h3
    split at h3
    · rename_i h4
      cases h3
      refine ⟨h4.2, ?_⟩
      have h5 := h4.1
      unfold numK at h5
      split at h5
      · rename_i h6; exact absurd h5 h6
      · split at h5
        · cases h5
        · rename_i h7; unfold numV; omega
    · cases h3
  obtain ⟨hk1, hk6⟩ := hk
  rcases (show k = 1 ∨ k = 2 ∨ k = 3 ∨ k = 4 ∨ k = 5 ∨ k = 6 by omega) with rfl | rfl | rfl | rfl | rfl | rfl
  · obtain ⟨y, h3, rfl⟩ := rFs_one (show rFs b [.N] q (zC 1) = some x from h2)
    obtain ⟨e1, e2⟩ := rF_num h3 (.inl rfl)
    show dg1 b q 0 = _
    unfold dg1
    rw [show M = most .N from rfl, e1]
    rw [e2]
    rfl
  · obtain ⟨y, h3, h4⟩ := rFs_cons (show rFs b [.J, .P] q (zC 2) = some x from h2)
    obtain ⟨e1, e2⟩ := rF_num h3 (.inr (.inl rfl))
    obtain ⟨z, h5, rfl⟩ := rFs_one h4
    have h5b : (rT b 1 1024 y.2).map (fun x => ((⟨0, 0, x.1, []⟩ : V), x.2)) = some z := h5
    clear h5
    rw [Option.map_eq_some_iff] at h5b
    obtain ⟨t, h5c, rfl⟩ := h5b
    show dg2 b q 0 = _
    unfold dg2
    rw [show (8 : Nat) = most .J from rfl, e1]
    simp only
    rw [rT_rd h5c, e2]
    rfl
  · obtain ⟨y, h3, h4⟩ := rFs_cons (show rFs b [.J, .B, .S, .F] q (zC 3) = some x from h2)
    obtain ⟨e1, e2⟩ := rF_num h3 (.inr (.inl rfl))
    obtain ⟨z, h5, h6⟩ := rFs_cons h4
    obtain ⟨e3, e4⟩ := rF_num h5 (.inr (.inr (.inl rfl)))
    obtain ⟨u, h7, h8⟩ := rFs_cons h6
    obtain ⟨e5, e6⟩ := rF_num h7 (.inr (.inr (.inr (.inl rfl))))
    obtain ⟨t, h9, rfl⟩ := rFs_one h8
    obtain ⟨e7, e8⟩ := rF_num h9 (.inr (.inr (.inr (.inr rfl))))
    show dg3 b q 0 = _
    unfold dg3
    rw [show (8 : Nat) = most .J from rfl, e1]
    simp only
    rw [show M = most .B from rfl, e3]
    simp only
    rw [show (7 : Nat) = most .S from rfl, e5]
    simp only
    rw [show most .B = most .F from rfl, e7, e2, e4, e6, e8]
    rfl
  · obtain ⟨y, h3, h4⟩ := rFs_cons (show rFs b [.B, .T] q (zC 4) = some x from h2)
    obtain ⟨e1, e2⟩ := rF_num h3 (.inr (.inr (.inl rfl)))
    obtain ⟨z, h5, rfl⟩ := rFs_one h4
    have h5b : (rN b 1 8 y.2).bind (fun x => (rTs b x.1 x.2).map fun y => ((⟨0, 0, e0, y.1⟩ : V), y.2)) = some z := h5
    clear h5
    rw [Option.bind_eq_some_iff] at h5b
    obtain ⟨u, h5c, h6⟩ := h5b
    rw [Option.map_eq_some_iff] at h6
    obtain ⟨t, h6, rfl⟩ := h6
    show dg4 b q 0 = _
    unfold dg4
    rw [show M = most .B from rfl, e1]
    simp only
    rw [rN_rdL h5c]
    simp only
    rw [rTs_rd b _ _ _ h6, e2]
    rfl
  · obtain ⟨y, h3, rfl⟩ := rFs_one (show rFs b [.B] q (zC 5) = some x from h2)
    obtain ⟨e1, e2⟩ := rF_num h3 (.inr (.inr (.inl rfl)))
    show dg5 b q 0 = _
    unfold dg5
    rw [show M = most .B from rfl, e1]
    rw [e2]
    rfl
  · obtain ⟨y, h3, h4⟩ := rFs_cons (show rFs b [.B, .R] q (zC 6) = some x from h2)
    obtain ⟨e1, e2⟩ := rF_num h3 (.inr (.inr (.inl rfl)))
    obtain ⟨z, h5, rfl⟩ := rFs_one h4
    have h5b : (rN b 0 7 y.2).bind (fun x => (rB b x.1 x.2).map fun y => ((⟨x.1, y.1, e0, []⟩ : V), y.2)) = some z := h5
    clear h5
    rw [Option.bind_eq_some_iff] at h5b
    obtain ⟨u, h5c, h6⟩ := h5b
    rw [Option.map_eq_some_iff] at h6
    obtain ⟨t, h6, rfl⟩ := h6
    show dg6 b q 0 = _
    unfold dg6
    rw [show M = most .B from rfl, e1]
    simp only
    rw [rN_rd h5c]
    simp only
    rw [rB_rd h6, e2]
    rfl
theorem rCs_rd (b : ByteArray) : ∀ (n p : Nat) (x : List Ch × Nat), rCs b n p = some x → dCs b n p 0 = (x.1, x.2, 0)
  | 0, p, x, h => by cases h; rfl
  | n + 1, p, x, h => by
    unfold rCs at h
    rw [Option.bind_eq_some_iff] at h
    obtain ⟨y, h1, h2⟩ := h
    rw [Option.map_eq_some_iff] at h2
    obtain ⟨z, h2, rfl⟩ := h2
    rw [dCs_cons, rC_rd h1]
    simp only
    rw [rCs_rd b n y.2 z h2]
theorem deco_dDec {b : ByteArray} {l : List Ch} (h : deco b = some l) : dDec b = l := by
  unfold deco at h
  split at h
  · rw [Option.bind_eq_some_iff] at h
    obtain ⟨x, h1, h2⟩ := h
    rw [Option.bind_eq_some_iff] at h2
    obtain ⟨y, h2, h3⟩ := h2
    unfold dDec
    rw [rN_rd h1]
    simp only
    rw [rCs_rd b _ _ _ h2]
    split at h3
    · cases h3; rfl
    · cases h3
  · cases h
/-- the document's Decode answers as the program's -/
theorem dDec_iff (b : ByteArray) : (enco (dDec b) = (b, 0) → deco b = some (dDec b)) ∧ (enco (dDec b) ≠ (b, 0) → deco b = none) := by
  refine ⟨fun h => ?_, fun h => ?_⟩
  · have := deco_at (l := dDec b) (by rw [h]) (fun c hc => (dDec_mem b c hc).1)
    rw [h] at this
    exact this
  · cases hd : deco b with
    | none => rfl
    | some l =>
      rw [deco_dDec hd] at h
      exact absurd (deco_form hd).1 h
end Rc
end Go.Proofs.Ytlgcimfbhjidgaa
end

section
namespace Go.Proofs.Ytlgcimfbhjidgaa
open Go.RowKit
open Rc (L V Ch)

/-- of what there was the reader's block alone is turned -/
structure Og (G : Nat) (w w' : World) : Prop where
  os : w'.os = w.os
  tape : w'.tape = w.tape
  output : w'.output = w.output
  size : w.heap.size ≤ w'.heap.size
  block : ∀ j, j < w.heap.size → j ≠ G → w'.heap[j]? = w.heap[j]?
theorem Og.refl (G : Nat) (w : World) : Og G w w := ⟨rfl, rfl, rfl, Nat.le_refl _, fun _ _ _ => rfl⟩
theorem Og.trans {G : Nat} {a b c : World} (h : Og G a b) (k : Og G b c) : Og G a c :=
  ⟨k.os.trans h.os, k.tape.trans h.tape, k.output.trans h.output, Nat.le_trans h.size k.size, fun j hj hn => (k.block j (Nat.lt_of_lt_of_le hj h.size) hn).trans (h.block j hj hn)⟩
theorem Og.of_below {G : Nat} {w w' : World} (h : Below w.heap.size w w') : Og G w w' := ⟨h.os, h.tape, h.output, h.size, fun j hj _ => h.block j hj⟩
theorem Og.of_rw {G : Nat} {w w' : World} (h : RW G 0 w w') : Og G w w' := ⟨h.os, h.tape, h.output, Nat.le_of_eq h.size.symm, fun j _ hn => h.other j hn⟩
theorem Og.low {G : Nat} {w v v' : World} (h : Og G w v) (k : Below w.heap.size v v') : Og G w v' :=
  ⟨k.os.trans h.os, k.tape.trans h.tape, k.output.trans h.output, Nat.le_trans h.size k.size, fun j hj hn => (k.block j hj).trans (h.block j hj hn)⟩
/-- a change that is being read -/
structure Gt (w : World) (G C : Nat) (b : ByteArray) (p f : Nat) (c : Ch) (t : Value) (V : World) : Prop where
  ca : V.heap[C]? = some (.cells (chC c t) 32 (0, 0))
  rz : V.heap[w.heap.size]? = some (.cells (chC (Rc.zC 0) (.slice none 0 0)) 32 (0, 0))
  rr : RR V G 0 b p f (aD p f)
  ple : p ≤ b.size
  og : Og G w V
  tx : V.ownsRow w.heap.size 9 1 t c.tx.length (strs c.tx)
  hC : w.heap.size < C
  hG : G < w.heap.size
section
variable {w V V' : World} {G C : Nat} {b : ByteArray} {p f : Nat} {c : Ch} {t : Value}
theorem Gt.rd (h : Gt w G C b p f c t V) {q g : Nat} (hR : RR V' G 0 b q g (aD q g)) (hW : RW G 0 V V') (hq : q ≤ b.size) : Gt w G C b q g c t V' :=
  ⟨(hW.other C (by have := h.hC; have := h.hG; omega)).trans h.ca, (hW.other _ (by have := h.hG; omega)).trans h.rz, hR, hq, h.og.trans (Og.of_rw hW),
    own_stepS h.tx (fun X hX => hW.other X (by have := (h.tx.lt X hX.symm).1; have := h.hG; omega)), h.hC, h.hG⟩
theorem Gt.set (h : Gt w G C b p f c t V) (k : Nat) (u : Value) {c' : Ch} {t' : Value} (hc : (chC c t).setIfInBounds k u = chC c' t') (ht : (V.setCell ⟨C, k, none⟩ u).ownsRow w.heap.size 9 1 t' c'.tx.length (strs c'.tx)) : Gt w G C b p f c' t' (V.setCell ⟨C, k, none⟩ u) :=
  ⟨by rw [heap_set_self V C k u _ _ _ h.ca, hc], (Below.heap_setCell _ ⟨C, k, none⟩ _ _ (Nat.ne_of_lt h.hC)).trans h.rz, h.rr.keep (Below.heap_setCell _ ⟨C, k, none⟩ _ _ (by have := h.hC; have := h.hG; show G ≠ C; omega)), h.ple,
    h.og.low ⟨rfl, rfl, rfl, by simp, fun j hj => Below.heap_setCell _ ⟨C, k, none⟩ _ _ (by have := h.hC; show j ≠ C; omega)⟩, ht, h.hC, h.hG⟩
theorem Gt.own (h : Gt w G C b p f c t V) (k : Nat) (u : Value) : (V.setCell ⟨C, k, none⟩ u).ownsRow w.heap.size 9 1 t c.tx.length (strs c.tx) :=
  own_stepS h.tx (fun X hX => Below.heap_setCell _ ⟨C, k, none⟩ _ _ (by
    rintro (rfl : X = C)
    exact own_typeS h.tx h.ca (by decide) hX))
theorem Gt.z (h : Gt w G C b p f c t V) (k : Nat) : V.frozen? ⟨C, k, none⟩ = false := by have h := h.ca; simp [World.frozen?, h]
theorem Gt.new (h : RR V G 0 b p f (aD p f)) (hp : p ≤ b.size) (hW : RW G 0 (w.alloc (.cells (chC (Rc.zC 0) (.slice none 0 0)) 32)) V) (hG : G < w.heap.size) (k : Int) : Gt w G V.heap.size b p f (Rc.zC k) (.slice none 0 0) (V.alloc (.cells (chC (Rc.zC k) (.slice none 0 0)) 32)) := by
  have hs : V.heap.size = w.heap.size + 1 := by rw [hW.size]; simp
  have hb := below_alloc V (.cells (chC (Rc.zC k) (.slice none 0 0)) 32)
  exact ⟨heap_alloc_new V _, (hb.block _ (by omega)).trans ((hW.other _ (by omega)).trans (heap_alloc_new w _)), h.keep (hb.block _ (by omega)), hp, (Og.of_below (below_alloc w _)).trans ((Og.of_rw hW).trans (Og.of_below hb)), World.ownsRow_nil _ _ _ _, by omega, hG⟩
theorem Gt.at (h : Gt w G C b p f c t V) : (V.cell? ⟨C, 0, none⟩ = some (.int .i64 c.k) ∧ V.cell? ⟨C, 1, none⟩ = some (.int .i64 c.n) ∧ V.cell? ⟨C, 2, none⟩ = some (.int .i64 c.jo) ∧ V.cell? ⟨C, 3, none⟩ = some (.int .i64 c.ba) ∧ V.cell? ⟨C, 4, none⟩ = some (.int .i64 c.sl) ∧ V.cell? ⟨C, 5, none⟩ = some (.int .i64 c.li) ∧ V.cell? ⟨C, 6, none⟩ = some (.int .i64 c.rc) ∧ V.cell? ⟨C, 7, none⟩ = some (.int .u64 (c.rb : Int)) ∧ V.cell? ⟨C, 8, none⟩ = some (.string c.pr) ∧ V.cell? ⟨C, 9, none⟩ = some t) ∧ ∀ k, V.frozen? ⟨C, k, none⟩ = false := by
  have h1 := h.ca
  exact ⟨by simp [World.cell?, h1, chC], h.z⟩
end
def GetP (w : World) (G : Nat) (b : ByteArray) (D : Ch × Nat × Nat) (e : Ending) (w' : World) : Prop :=
  ∃ t, e = .returned (.agg (chC D.1 t)) ∧ RR w' G 0 b (D.2.1 : Int) (D.2.2 : Int) (aD D.2.1 D.2.2) ∧ Og G w w' ∧ w'.ownsRow w.heap.size 9 1 t D.1.tx.length (strs D.1.tx)
theorem Gt.ret {w V : World} {G C : Nat} {b : ByteArray} {p f : Nat} {c : Ch} {t : Value} (h : Gt w G C b p f c t V) : GetP w G b (c, p, f) (.returned (.agg (chC c t))) (V.setRow w.heap.size (chC c t)) :=
  ⟨t, rfl, h.rr.keep (setRow_other _ _ _ _ (Nat.ne_of_lt h.hG)), h.og.low ⟨rfl, rfl, rfl, by simp [World.setRow], fun j hj => setRow_other _ _ _ _ (by omega)⟩, own_stepS h.tx (fun X hX => setRow_other _ _ _ _ (by
    rintro rfl
    exact own_typeS h.tx h.rz (by decide) hX))⟩
theorem chC_all (c : Ch) (t : Value) (ht : t.oneCell' = true) : (chC c t).all (·.oneCell') = true := by
  cases t <;> first | (simp [chC, Value.oneCell']; done) | cases ht
theorem own_one {w : World} {n0 n : Nat} {v : Value} {xs : List Value} (h : w.ownsRow n0 9 1 v n xs) : v.oneCell' = true := by
  rcases h.2 with ⟨rfl, _⟩ | ⟨g, cap, cur, rfl, _⟩ <;> rfl
theorem own_sliceS {w : World} {n0 n : Nat} {v : Value} {xs : List Value} (h : w.ownsRow n0 9 1 v n xs) : ∃ p cap, v = .slice p n cap := by
  rcases h.2 with ⟨rfl, rfl⟩ | ⟨g, cap, cur, rfl, _⟩
  · exact ⟨none, 0, rfl⟩
  · exact ⟨_, cap, rfl⟩
/-- a text more -/
theorem Gt.kept {w V V8 : World} {G C : Nat} {b : ByteArray} {p f : Nat} {c : Ch} {t : Value} {o : Obj} (h : Gt w G C b p f c t V) (hg : (V.alloc o).grownBy V8 t.ownBlock) : V8.heap[C]? = some (.cells (chC c t) 32 (0, 0)) ∧ V8.heap[w.heap.size]? = some (.cells (chC (Rc.zC 0) (.slice none 0 0)) 32 (0, 0)) ∧ V8.heap[G]? = V.heap[G]? ∧ Og G w V8 := by
  have hb := below_alloc V o
  have hk : ∀ X, X < V.heap.size → some X ≠ t.ownBlock → V8.heap[X]? = V.heap[X]? := fun X hX hn => (hg.block X (by simp; omega) hn).trans (hb.block X hX)
  have lo : ∀ X, X < w.heap.size → some X ≠ t.ownBlock := fun X hX e => by have := (h.tx.lt X e.symm).1; omega
  have hs := h.og.size
  refine ⟨(hk C (lt_of_block h.ca) (own_typeS h.tx h.ca (by decide))).trans h.ca, (hk _ (lt_of_block h.rz) (own_typeS h.tx h.rz (by decide))).trans h.rz, hk G h.rr.lt (lo G h.hG), ?_⟩
  exact ⟨hg.os.trans h.og.os, hg.tape.trans h.og.tape, hg.output.trans h.og.output, by have := hg.size; simp at this; omega, fun j hj hn => (hk j (by omega) (lo j hj)).trans (h.og.block j hj hn)⟩
theorem Gt.app {w V V8 : World} {G C : Nat} {b : ByteArray} {p f : Nat} {c : Ch} {t v : Value} {s : ByteArray} {o : Obj} (h : Gt w G C b p f c t V) (hg : (V.alloc o).grownBy V8 t.ownBlock) (hown : V8.ownsRow w.heap.size 9 1 v (c.tx.length + 1) (strs c.tx ++ [.string s])) :
    Gt w G C b p f { c with tx := c.tx ++ [s] } v (V8.setCell ⟨C, 9, none⟩ v) := by
  obtain ⟨h1, h2, h3, h4⟩ := h.kept hg
  have e1 : (c.tx ++ [s]).length = c.tx.length + 1 := by simp
  have e2 : strs (c.tx ++ [s]) = strs c.tx ++ [.string s] := by simp [strs]
  refine ⟨by rw [heap_set_self V8 C 9 v _ _ _ h1]; rfl, (Below.heap_setCell _ ⟨C, 9, none⟩ _ _ (Nat.ne_of_lt h.hC)).trans h2, h.rr.keep ((Below.heap_setCell _ ⟨C, 9, none⟩ _ _ (by have := h.hC; have := h.hG; show G ≠ C; omega)).trans h3), h.ple,
    h4.low ⟨rfl, rfl, rfl, by simp, fun j hj => Below.heap_setCell _ ⟨C, 9, none⟩ _ _ (by have := h.hC; show j ≠ C; omega)⟩, ?_, h.hC, h.hG⟩
  rw [e1, e2]
  exact own_stepS hown (fun X hX => Below.heap_setCell _ ⟨C, 9, none⟩ _ _ (by
    rintro (rfl : X = C)
    exact own_typeS hown h1 (by decide) hX))
theorem one_newR (w : World) (u : Value) (t : TypeId) : ∀ j x, [u][j]? = some x → (w.alloc (.cells #[u] t)).cell? ((⟨w.heap.size, 0, none⟩ : Addr).add j) = some x := by
  intro j x hj
  match j, hj with
  | 0, hj => simp at hj; subst hj; simp [Addr.add]
theorem results_ch {fn : Func} {p : Tmp} (h : fn.results = #[.cell p 32]) (tmps : Array Value) (w : World) (g : Nat) (cs : Array Value) (hp : tmps.getD p undef = .pointer (some ⟨g, 0, none⟩)) (hg : w.heap[g]? = some (.cells cs 32 (0, 0))) (hc : cs.size = 10) :
    (results fn tmps).run Try.prog w = .ok (.agg cs) w := by
  have he := run_loadVar_row (P := Try.prog) w g 32 32 cs (0, 0) _ hg Try.underlying32 rfl (by rw [hc]; kernel_rfl)
  have hr : (results fn tmps).run Try.prog w = ((asAddr (tmps.getD p undef)).run Try.prog w).andThen fun a w₁ => (loadVar 32 a).run Try.prog w₁ := by
    simp only [results, h]
    simp [Sem.run_bind, Result.andThen]
  rw [hr, hp]
  simp [asAddr, he]
end Go.Proofs.Ytlgcimfbhjidgaa
end
