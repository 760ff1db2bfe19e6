import Derived.Test.YtapcmmljdpallaaWrM
namespace Go.Proofs.Ytapcmmljdpallaa

theorem num_at {b : ByteArray} {p N most above : Nat} {more : List UInt8} (h : rest b p = Pk.enc N ++ more) (hN : N < 18446744073709551616) (hm : N ≤ most) :
    numK b p most above = 0 ∧ numV b p = N ∧ numQ b p = p + (Pk.enc N).length := by
  have hD : Pk.dec 0 0 (rest b p) = (0, N, (Pk.enc N).length) := by
    rw [h, Pk.dec_enc N 0 0 _ (by decide) (by simpa using hN) (.inl rfl)]
    simp
  exact ⟨numK_ok hD hm, by unfold numV; rw [hD], by unfold numQ; rw [hD]⟩
theorem bits_at {b : ByteArray} {p N : Nat} {more : List UInt8} (hp : p ≤ b.size) (h : rest b p = Pk.big8 N ++ more) (hN : N < 18446744073709551616) : bitsK b p = 0 ∧ bitsV b p = N := by
  have hl := congrArg List.length h
  rw [rest_len, List.length_append, show (Pk.big8 N).length = 8 from rfl] at hl
  refine ⟨if_neg (by omega), ?_⟩
  unfold bitsV
  rw [h, List.take_left' (show (Pk.big8 N).length = 8 from rfl)]
  exact Pk.fold8_big8 N hN
theorem text_at {b S : ByteArray} {p most : Nat} {more : List UInt8} (hp : p ≤ b.size) (h : rest b p = Pk.enc S.size ++ S.data.toList ++ more) (hS : S.size ≤ most) (hS' : S.size ≤ 140737488351232) :
    textK b p most = 0 ∧ textV b p = S ∧ numQ b p + numV b p = p + (Pk.enc S.size ++ S.data.toList).length := by
  have h' : rest b p = Pk.enc S.size ++ (S.data.toList ++ more) := by rw [h, List.append_assoc]
  obtain ⟨k0, v0, q0⟩ := num_at (most := most) (above := 23) h' (by omega) hS
  have hl := congrArg List.length h
  have hSl : S.data.toList.length = S.size := rfl
  rw [rest_len, List.length_append, List.length_append, hSl] at hl
  rw [List.length_append, hSl]
  refine ⟨?_, ?_, by rw [q0, v0]; omega⟩
  · unfold textK
    rw [k0, if_neg (by simp), if_neg (by rw [q0, v0]; omega)]
  · unfold textV
    rw [extract_eq, v0, q0]
    have e : rest b (p + (Pk.enc S.size).length) = S.data.toList ++ more := by
      unfold rest at h' ⊢
      rw [← List.drop_drop, h', List.drop_left' rfl]
    rw [e, List.take_left' hSl]
namespace Wr
/-- a field's value within what may be read -/
def fits (lim : L → Nat) : L → V → Prop
  | .R, v => 0 ≤ v.i ∧ v.i.toNat ≤ lim .R ∧ v.n < 18446744073709551616
  | .T, v => v.t.size ≤ lim .T
  | .P, v => v.t.size ≤ lim .P
  | l, v => 0 ≤ v.i ∧ v.i.toNat ≤ lim l
theorem rdN_at {b : ByteArray} {lim p N : Nat} {more : List UInt8} (h : rest b p = Pk.enc N ++ more) (hN : N ≤ lim) (hl : lim < 18446744073709551616) : rdN b lim p 0 = (N, p + (Pk.enc N).length, 0) := by
  obtain ⟨k0, v0, q0⟩ := num_at (most := lim) (above := 21) h (by omega) hN
  unfold rdN; rw [if_neg (by simp), if_pos k0, v0, q0]
theorem rest_next {b : ByteArray} {p : Nat} {a more : List UInt8} (h : rest b p = a ++ more) : rest b (p + a.length) = more := by
  unfold rest at h ⊢; rw [← List.drop_drop, h, List.drop_left' rfl]
theorem rest_in {b : ByteArray} {p : Nat} {a more : List UInt8} (hp : p ≤ b.size) (h : rest b p = a ++ more) : p + a.length ≤ b.size := by
  have := congrArg List.length h
  rw [rest_len, List.length_append] at this; omega
theorem rd_there {b : ByteArray} {lim : L → Nat} (hlim : ∀ l, lim l ≤ 140737488351232) {l : L} {v : V} {p : Nat} {more : List UInt8} (hp : p ≤ b.size) (h : rest b p = lay l v ++ more) (hv : fits lim l v) (hn : nrm l v = v) :
    rd b lim l p 0 = (v, p + (lay l v).length, 0) := by
  have hl := hlim l
  cases l
  case R =>
    obtain ⟨h0, h1, h2⟩ := hv
    have h' : rest b p = Pk.enc v.i.toNat ++ (Pk.big8 v.n ++ more) := by rw [h]; simp [lay]
    have hN := rdN_at (lim := lim .R) h' h1 (by omega)
    obtain ⟨k0, v0⟩ := bits_at (rest_in hp h') (rest_next h') h2
    unfold rd
    simp only [hN]
    unfold rdB
    rw [if_neg (by simp), if_pos k0, v0]
    refine Prod.ext ?_ (Prod.ext ?_ rfl)
    · rw [← hn]; simp [nrm, Int.toNat_of_nonneg h0]
    · simp only [lay, List.length_append]; rw [show (Pk.big8 v.n).length = 8 from rfl]; omega
  case T =>
    have h' : rest b p = Pk.enc v.t.size ++ v.t.data.toList ++ more := h
    obtain ⟨k0, v0, q0⟩ := text_at (most := lim .T) hp h' hv (Nat.le_trans hv hl)
    unfold rd rdT
    simp only [ne_eq, not_true_eq_false, if_false, k0, if_true, v0, q0]
    rw [← hn]; rfl
  case P =>
    have h' : rest b p = Pk.enc v.t.size ++ v.t.data.toList ++ more := h
    obtain ⟨k0, v0, q0⟩ := text_at (most := lim .P) hp h' hv (Nat.le_trans hv hl)
    unfold rd rdT
    simp only [ne_eq, not_true_eq_false, if_false, k0, if_true, v0, q0]
    rw [← hn]; rfl
  all_goals
    obtain ⟨h0, h1⟩ := hv
    have hN := rdN_at h h1 (by omega)
    unfold rd
    simp only [hN]
    refine Prod.ext ?_ rfl
    rw [← hn]; simp [nrm, Int.toNat_of_nonneg h0]
theorem rds_there {b : ByteArray} {lim : L → Nat} (hlim : ∀ l, lim l ≤ 140737488351232) (n : Ms) (more : List UInt8) (ls : List L) : ∀ p m, ls.Nodup → p ≤ b.size → rest b p = body n ls ++ more → (∀ l ∈ ls, fits lim l (get l n)) →
    (rds b lim ls p 0 m).1 = p + (body n ls).length ∧ (rds b lim ls p 0 m).2.1 = 0 ∧ (rds b lim ls p 0 m).2.2.k = m.k ∧ (∀ l ∈ ls, get l (rds b lim ls p 0 m).2.2 = get l n) ∧ ∀ l, l ∉ ls → get l (rds b lim ls p 0 m).2.2 = get l m := by
  induction ls with
  | nil => intro p m _ _ _ _; simp [rds, body]
  | cons l ls ih =>
    intro p m hn hp h hf
    obtain ⟨hl, hn⟩ := List.nodup_cons.mp hn
    have hb : body n (l :: ls) = lay l (get l n) ++ body n ls := by simp [body]
    have h' : rest b p = lay l (get l n) ++ (body n ls ++ more) := by rw [h, hb, List.append_assoc]
    have h1 := rd_there hlim hp h' (hf l List.mem_cons_self) (nrm_get l n)
    obtain ⟨i1, i2, i3, i4, i5⟩ := ih (p + (lay l (get l n)).length) (set l (get l n) m) hn (rest_in hp h') (rest_next h') (fun l' h => hf l' (List.mem_cons_of_mem _ h))
    simp only [rds, h1]
    refine ⟨by rw [i1, hb, List.length_append]; omega, i2, by rw [i3, k_set], ?_, ?_⟩
    · intro l' h'
      rcases List.mem_cons.mp h' with rfl | h'
      · rw [i5 _ hl, get_set, nrm_get]
      · exact i4 _ h'
    · intro l' h'
      rw [List.mem_cons, not_or] at h'
      rw [i5 _ h'.2, get_ne (fun e => h'.1 e.symm)]

theorem rdN_dead {b : ByteArray} {lim p f : Nat} (h : f ≠ 0) : rdN b lim p f = (0, p, f) := if_pos h
theorem rdT_dead {b : ByteArray} {lim p f : Nat} (h : f ≠ 0) : rdT b lim p f = (e0, p, f) := if_pos h
theorem rdB_dead {b : ByteArray} {p f : Nat} (h : f ≠ 0) : rdB b p f = (0, p, f) := if_pos h
theorem rd_dead {b : ByteArray} {lim : L → Nat} {l : L} {p f : Nat} (h : f ≠ 0) : rd b lim l p f = (zV, p, f) := by
  cases l <;> simp only [rd, rdN_dead h, rdT_dead h, rdB_dead h] <;> rfl
theorem rdN_form {b : ByteArray} {lim p : Nat} (hp : p ≤ b.size) (h : (rdN b lim p 0).2.2 = 0) :
    (rdN b lim p 0).2.1 ≤ b.size ∧ (rdN b lim p 0).1 ≤ lim ∧ b.data.toList.take (rdN b lim p 0).2.1 = b.data.toList.take p ++ Pk.enc (rdN b lim p 0).1 := by
  unfold rdN at h ⊢
  rw [if_neg (by simp)] at h ⊢
  by_cases h1 : numK b p lim 21 = 0
  · rw [if_pos h1]
    obtain ⟨q, a1, a2, a3, a4⟩ := num_form hp (by decide) h1
    exact ⟨a1, a2, a4⟩
  · rw [if_neg h1] at h; exact absurd h h1
theorem rdT_form {b : ByteArray} {lim p : Nat} (hp : p ≤ b.size) (h : (rdT b lim p 0).2.2 = 0) :
    (rdT b lim p 0).2.1 ≤ b.size ∧ b.data.toList.take (rdT b lim p 0).2.1 = b.data.toList.take p ++ (Pk.enc (rdT b lim p 0).1.size ++ (rdT b lim p 0).1.data.toList) := by
  unfold rdT at h ⊢
  rw [if_neg (by simp)] at h ⊢
  by_cases h1 : textK b p lim = 0
  · rw [if_pos h1]
    obtain ⟨a1, a2, a3, a4, a5⟩ := text_form hp h1
    exact ⟨a1, a5⟩
  · rw [if_neg h1] at h; exact absurd h h1
theorem rdB_form {b : ByteArray} {p : Nat} (h : (rdB b p 0).2.2 = 0) :
    (rdB b p 0).2.1 ≤ b.size ∧ (rdB b p 0).1 < 18446744073709551616 ∧ b.data.toList.take (rdB b p 0).2.1 = b.data.toList.take p ++ Pk.big8 (rdB b p 0).1 := by
  unfold rdB at h ⊢
  rw [if_neg (by simp)] at h ⊢
  by_cases h1 : bitsK b p = 0
  · rw [if_pos h1]
    obtain ⟨a1, a2, a3, a4⟩ := bits_form h1
    exact ⟨a1, a2, a4⟩
  · rw [if_neg h1] at h; exact absurd h h1
theorem rd_form {b : ByteArray} {lim : L → Nat} {l : L} {p : Nat} (hp : p ≤ b.size) (h : (rd b lim l p 0).2.2 = 0) :
    (rd b lim l p 0).2.1 ≤ b.size ∧ nrm l (rd b lim l p 0).1 = (rd b lim l p 0).1 ∧ b.data.toList.take (rd b lim l p 0).2.1 = b.data.toList.take p ++ lay l (rd b lim l p 0).1 := by
  cases l
  case R =>
    simp only [rd] at h ⊢
    by_cases h1 : (rdN b (lim .R) p 0).2.2 = 0
    · obtain ⟨a1, a2, a3⟩ := rdN_form hp h1
      rw [h1] at h ⊢
      obtain ⟨c1, c2, c3⟩ := rdB_form h
      refine ⟨c1, rfl, ?_⟩
      rw [c3, a3, List.append_assoc]; simp [lay]
    · rw [rdB_dead h1] at h; exact absurd h h1
  case T => obtain ⟨a1, a2⟩ := rdT_form hp h; exact ⟨a1, rfl, a2⟩
  case P => obtain ⟨a1, a2⟩ := rdT_form hp h; exact ⟨a1, rfl, a2⟩
  all_goals
    obtain ⟨a1, a2, a3⟩ := rdN_form hp h
    refine ⟨a1, rfl, ?_⟩
    exact a3
theorem rds_dead (b : ByteArray) (lim : L → Nat) (ls : List L) : ∀ p f m, f ≠ 0 → (rds b lim ls p f m).2.1 = f ∧ (rds b lim ls p f m).1 = p := by
  induction ls with
  | nil => intro p f m _; exact ⟨rfl, rfl⟩
  | cons l ls ih => intro p f m hf; simp only [rds, rd_dead hf]; exact ih _ _ _ hf
theorem rds_form (b : ByteArray) (lim : L → Nat) (ls : List L) : ∀ p m, ls.Nodup → p ≤ b.size → (rds b lim ls p 0 m).2.1 = 0 →
    (rds b lim ls p 0 m).1 ≤ b.size ∧ b.data.toList.take (rds b lim ls p 0 m).1 = b.data.toList.take p ++ body (rds b lim ls p 0 m).2.2 ls ∧ (rds b lim ls p 0 m).2.2.k = m.k ∧ ∀ l, l ∉ ls → get l (rds b lim ls p 0 m).2.2 = get l m := by
  induction ls with
  | nil => intro p m _ hp _; simp [rds, body, hp]
  | cons l ls ih =>
    intro p m hn hp h
    obtain ⟨hl, hn⟩ := List.nodup_cons.mp hn
    simp only [rds] at h ⊢
    by_cases h1 : (rd b lim l p 0).2.2 = 0
    · obtain ⟨a1, a2, a3⟩ := rd_form hp h1
      rw [h1] at h ⊢
      obtain ⟨i1, i2, i3, i4⟩ := ih _ _ hn a1 h
      refine ⟨i1, ?_, by rw [i3, k_set], ?_⟩
      · rw [i2, a3, List.append_assoc]
        congr 1
        simp only [body, List.flatMap_cons]
        rw [i4 _ hl, get_set, a2]
      · intro l' h'
        rw [List.mem_cons, not_or] at h'
        rw [i4 _ h'.2, get_ne (fun e => h'.1 e.symm)]
    · exact absurd ((rds_dead b lim ls _ _ _ h1).1.symm.trans h) h1
end Wr
end Go.Proofs.Ytapcmmljdpallaa
