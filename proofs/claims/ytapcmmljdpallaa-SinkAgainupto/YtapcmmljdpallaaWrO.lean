import Derived.Test.YtapcmmljdpallaaWrN
namespace Go.Proofs.Ytapcmmljdpallaa
namespace Wr
/-- what a reader says at its end -/
def endK (b : ByteArray) (p f : Nat) : Nat := if f ≠ 0 then f else if p < b.size then 24 else 0
/-- Decode, with what it lets a field be at most -/
def decode (lim : Int → L → Nat) (b : ByteArray) : Ms × Nat :=
  if 2048 < b.size then (zM 0, 73) else
  let h := rdN b 16 0 0
  let r := rds b (lim h.1) (letters h.1) h.2.1 h.2.2 (zM h.1)
  if endK b r.1 r.2.1 ≠ 0 ∨ check r.2.2 ≠ 0 then (zM 0, 72) else (r.2.2, 0)
structure Lim (lim : Int → L → Nat) : Prop where
  hi : ∀ k l, lim k l ≤ 140737488351232
  lo : ∀ k l, most k l ≤ lim k l
theorem fits_may {lim : Int → L → Nat} (hl : Lim lim) {m : Ms} (hb : m.rb < 18446744073709551616) {l : L} (h : may m.k l (get l m) = true) : fits (lim m.k) l (get l m) := by
  have hlo := hl.lo m.k l
  unfold may at h
  rw [Bool.and_eq_true, decide_eq_true_eq] at h
  obtain ⟨⟨h1, h2⟩, _⟩ := h
  cases l <;> simp only [fits, least, sz, get] at * <;> omega
theorem rest_zero (b : ByteArray) : rest b 0 = b.data.toList := rfl
theorem size_list (b : ByteArray) : b.size = b.data.toList.length := rfl
/-- reading a message's bytes, with more behind them -/
theorem reads_there {lim : Int → L → Nat} (hl : Lim lim) {m : Ms} (hb : m.rb < 18446744073709551616) (hc : check m = 0) {b : ByteArray} {more : List UInt8} (h : b.data.toList = bytes m ++ more) :
    rdN b 16 0 0 = (m.k.toNat, (Pk.enc m.k.toNat).length, 0) ∧ rds b (lim m.k) (letters m.k) (Pk.enc m.k.toNat).length 0 (zM m.k) = ((bytes m).length, 0, m) := by
  obtain ⟨⟨k1, k2⟩, _, h3, h4⟩ := (check_iff m).mp hc
  have h0 : rest b 0 = Pk.enc m.k.toNat ++ (body m (letters m.k) ++ more) := by rw [rest_zero, h, bytes, List.append_assoc]
  have e1 := rdN_at (lim := 16) h0 (by omega) (by decide)
  rw [Nat.zero_add] at e1
  refine ⟨e1, ?_⟩
  have e2 := rest_next h0
  have e3 := rest_in (Nat.zero_le _) h0
  rw [Nat.zero_add] at e2 e3
  obtain ⟨i1, i2, i3, i4, i5⟩ := rds_there (hl.hi m.k) m more (letters m.k) _ (zM m.k) (letters_nodup _) e3 e2 (fun l h => fits_may hl hb (h3 l h))
  refine Prod.ext (by rw [i1, bytes, List.length_append]) (Prod.ext i2 (ms_ext (by rw [i3]; rfl) fun l => ?_))
  by_cases hl : l ∈ letters m.k
  · exact i4 l hl
  · rw [i5 l hl, get_z, h4 l hl]
theorem decode_there {lim : Int → L → Nat} (hl : Lim lim) {m : Ms} (hb : m.rb < 18446744073709551616) (hc : check m = 0) {b : ByteArray} (hs : b.size ≤ 2048) (h : b.data.toList = bytes m) : decode lim b = (m, 0) := by
  obtain ⟨⟨k1, k2⟩, _⟩ := (check_iff m).mp hc
  obtain ⟨e1, e2⟩ := reads_there hl hb hc (more := []) (by rw [h, List.append_nil])
  unfold decode
  rw [if_neg (by omega)]
  simp only [e1, Int.toNat_of_nonneg (show 0 ≤ m.k by omega), e2]
  rw [if_neg]
  rw [not_or, Decidable.not_not, Decidable.not_not]
  exact ⟨by unfold endK; rw [if_neg (by simp), if_neg (by rw [size_list, h]; omega)], hc⟩
theorem rdB_lt (b : ByteArray) (p f : Nat) : (rdB b p f).1 < 18446744073709551616 := by
  unfold rdB
  by_cases h : f ≠ 0
  · rw [if_pos h]; exact (by decide : (0 : Nat) < 18446744073709551616)
  · rw [if_neg h]
    by_cases h1 : bitsK b p = 0
    · rw [if_pos h1]; exact (bits_form h1).2.1
    · rw [if_neg h1]; exact (by decide : (0 : Nat) < 18446744073709551616)
theorem rds_rb (b : ByteArray) (lim : L → Nat) (ls : List L) : ∀ p f m, m.rb < 18446744073709551616 → (rds b lim ls p f m).2.2.rb < 18446744073709551616 := by
  induction ls with
  | nil => intro p f m h; exact h
  | cons l ls ih =>
    intro p f m h
    simp only [rds]
    apply ih
    cases l
    case R => exact rdB_lt _ _ _
    all_goals exact h
theorem rdN_le (b : ByteArray) (lim p f : Nat) (hp : p ≤ b.size) : (rdN b lim p f).1 ≤ lim ∧ (rdN b lim p f).2.1 ≤ b.size := by
  by_cases hf : f ≠ 0
  · rw [rdN_dead hf]; exact ⟨Nat.zero_le _, hp⟩
  · rw [Decidable.not_not] at hf; subst hf
    by_cases h : (rdN b lim p 0).2.2 = 0
    · obtain ⟨a1, a2, _⟩ := rdN_form hp h; exact ⟨a2, a1⟩
    · unfold rdN at h ⊢
      rw [if_neg (by simp)] at h ⊢
      by_cases h1 : numK b p lim 21 = 0
      · rw [if_pos h1] at h; exact absurd rfl h
      · rw [if_neg h1]; exact ⟨Nat.zero_le _, hp⟩
theorem decode_form {lim : Int → L → Nat} {b : ByteArray} {m : Ms} (h : decode lim b = (m, 0)) : b.size ≤ 2048 ∧ check m = 0 ∧ b.data.toList = bytes m ∧ m.rb < 18446744073709551616 := by
  unfold decode at h
  by_cases h1 : 2048 < b.size
  · rw [if_pos h1] at h; exact absurd (congrArg Prod.snd h) (by decide : ¬ (73 : Nat) = 0)
  · rw [if_neg h1] at h
    simp only at h
    split at h
    · exact absurd (congrArg Prod.snd h) (by decide : ¬ (72 : Nat) = 0)
    · rename_i hn
      rw [not_or, Decidable.not_not, Decidable.not_not] at hn
      obtain ⟨hE, hc⟩ := hn
      have hm := congrArg Prod.fst h
      simp only at hm
      have hf0 : (rdN b 16 0 0).2.2 = 0 := by
        by_cases hz : (rdN b 16 0 0).2.2 = 0
        · exact hz
        · exfalso
          have := (rds_dead b (lim (rdN b 16 0 0).1) (letters (rdN b 16 0 0).1) (rdN b 16 0 0).2.1 (rdN b 16 0 0).2.2 (zM (rdN b 16 0 0).1) hz).1
          unfold endK at hE
          rw [this, if_pos hz] at hE
          exact hz hE
      obtain ⟨a1, a2, a3⟩ := rdN_form (Nat.zero_le _) hf0
      rw [hf0] at hE hc hm
      have hf1 : (rds b (lim (rdN b 16 0 0).1) (letters (rdN b 16 0 0).1) (rdN b 16 0 0).2.1 0 (zM (rdN b 16 0 0).1)).2.1 = 0 := by
        unfold endK at hE
        by_cases hz : (rds b (lim (rdN b 16 0 0).1) (letters (rdN b 16 0 0).1) (rdN b 16 0 0).2.1 0 (zM (rdN b 16 0 0).1)).2.1 = 0
        · exact hz
        · rw [if_pos hz] at hE; exact absurd hE hz
      obtain ⟨i1, i2, i3, i4⟩ := rds_form b _ _ _ _ (letters_nodup _) a1 hf1
      have hp : ¬ (rds b (lim (rdN b 16 0 0).1) (letters (rdN b 16 0 0).1) (rdN b 16 0 0).2.1 0 (zM (rdN b 16 0 0).1)).1 < b.size := by
        intro hlt
        unfold endK at hE
        rw [hf1, if_neg (by simp), if_pos hlt] at hE
        cases hE
      have hrb := rds_rb b (lim (rdN b 16 0 0).1) (letters (rdN b 16 0 0).1) (rdN b 16 0 0).2.1 0 (zM (rdN b 16 0 0).1) (show (0 : Nat) < _ by decide)
      rw [hm] at i2 i3 hc hrb
      refine ⟨by omega, hc, ?_, hrb⟩
      have hk : m.k = ((rdN b 16 0 0).1 : Int) := i3
      rw [a3, List.take_of_length_le (by rw [← size_list]; omega)] at i2
      rw [i2, bytes, hk]
      simp
theorem decode_or (lim : Int → L → Nat) (b : ByteArray) : (2048 < b.size ∧ decode lim b = (zM 0, 73)) ∨ (b.size ≤ 2048 ∧ (decode lim b = (zM 0, 72) ∨ ∃ m, decode lim b = (m, 0))) := by
  unfold decode
  by_cases h1 : 2048 < b.size
  · rw [if_pos h1]; exact .inl ⟨h1, rfl⟩
  · rw [if_neg h1]
    refine .inr ⟨by omega, ?_⟩
    simp only
    split
    · exact .inl rfl
    · exact .inr ⟨_, rfl⟩
theorem decode_eq {lim lim' : Int → L → Nat} (h : Lim lim) (h' : Lim lim') (b : ByteArray) : decode lim b = decode lim' b := by
  rcases decode_or lim b with ⟨a, e⟩ | ⟨a, e⟩ <;> rcases decode_or lim' b with ⟨a', e'⟩ | ⟨a', e'⟩
  · rw [e, e']
  · omega
  · omega
  · rcases e with e | ⟨m, e⟩
    · rcases e' with e' | ⟨m', e'⟩
      · rw [e, e']
      · obtain ⟨f1, f2, f3, f4⟩ := decode_form e'
        rw [decode_there h f4 f2 f1 f3] at e
        exact absurd (congrArg Prod.snd e) (by decide : ¬ (0 : Nat) = 72)
    · obtain ⟨f1, f2, f3, f4⟩ := decode_form e
      rw [e, decode_there h' f4 f2 f1 f3]
/-- a message's bytes are no beginning of another one's -/
theorem bytes_apart {m n : Ms} (hm : check m = 0) (hn : check n = 0) (bm : m.rb < 18446744073709551616) (bn : n.rb < 18446744073709551616) {more : List UInt8} (h : bytes m = bytes n ++ more) : m = n ∧ more = [] := by
  have hl : Lim fun _ _ => 1099511627776 := ⟨fun _ _ => by decide, fun k l => by cases l <;> simp only [most] <;> (try split) <;> decide⟩
  have e : (⟨(bytes m).toArray⟩ : ByteArray).data.toList = bytes m ++ [] := by simp
  have e' : (⟨(bytes m).toArray⟩ : ByteArray).data.toList = bytes n ++ more := by simp [h]
  obtain ⟨a1, a2⟩ := reads_there hl bm hm e
  obtain ⟨b1, b2⟩ := reads_there hl bn hn e'
  obtain ⟨⟨k1, k2⟩, _⟩ := (check_iff m).mp hm
  obtain ⟨⟨l1, l2⟩, _⟩ := (check_iff n).mp hn
  have hk : m.k = n.k := by
    have := congrArg Prod.fst (a1.symm.trans b1)
    simp only at this
    omega
  rw [hk] at a2
  have := a2.symm.trans b2
  have h1 := congrArg Prod.fst this
  have h2 := congrArg (fun x => x.2.2) this
  simp only at h1 h2
  refine ⟨h2, ?_⟩
  have hlen := congrArg List.length h
  rw [List.length_append] at hlen
  exact List.eq_nil_of_length_eq_zero (by omega)
def bd : L → Nat
  | .R => 18 | .T => 42 | .P => 1034 | _ => 10
theorem lay_bd {m : Ms} {l : L} (h : may m.k l (get l m) = true) : (lay l (get l m)).length ≤ bd l := by
  unfold may at h
  rw [Bool.and_eq_true, decide_eq_true_eq] at h
  obtain ⟨⟨h1, h2⟩, _⟩ := h
  cases l <;> simp only [lay, least, most, sz, get, bd, List.length_append] at *
  case R => have := Pk.enc_ten (n := m.rc.toNat) (by omega); rw [show (Pk.big8 m.rb).length = 8 from rfl]; omega
  case T => have := Pk.enc_ten (n := m.tx.size) (by omega); rw [← size_list]; omega
  case P => have := Pk.enc_ten (n := m.pr.size) (by omega); rw [← size_list]; omega
  case I => exact Pk.enc_ten (by split at h2 <;> omega)
  case C => exact Pk.enc_ten (by split at h2 <;> omega)
  all_goals exact Pk.enc_ten (by omega)
theorem body_bd (m : Ms) (ls : List L) (h : ∀ l ∈ ls, may m.k l (get l m) = true) : (body m ls).length ≤ (ls.map bd).sum := by
  induction ls with
  | nil => simp [body]
  | cons l ls ih =>
    have h1 := lay_bd (h l List.mem_cons_self)
    have h2 := ih (fun l' h' => h l' (List.mem_cons_of_mem _ h'))
    simp only [body, List.flatMap_cons, List.length_append, List.map_cons, List.sum_cons] at *
    omega
theorem bd_ite {c : Prop} [Decidable c] {a b : List L} (ha : (a.map bd).sum ≤ 2000) (hb : (b.map bd).sum ≤ 2000) : ((if c then a else b).map bd).sum ≤ 2000 := by
  by_cases h : c
  · rw [if_pos h]; exact ha
  · rw [if_neg h]; exact hb
theorem letters_bd (k : Int) : ((letters k).map bd).sum ≤ 2000 := by
  unfold letters
  repeat (refine bd_ite (by decide) ?_)
  decide
theorem bytes_len {m : Ms} (hm : check m = 0) : (bytes m).length ≤ 2048 := by
  obtain ⟨⟨k1, k2⟩, _, h, _⟩ := (check_iff m).mp hm
  have h1 := body_bd m _ h
  have h2 := letters_bd m.k
  have h3 := Pk.enc_ten (n := m.k.toNat) (by omega)
  rw [bytes, List.length_append]
  omega
theorem bytes_head {m : Ms} (hm : check m = 0) : ∃ t, bytes m = UInt8.ofNat m.k.toNat :: t := by
  obtain ⟨⟨k1, k2⟩, _⟩ := (check_iff m).mp hm
  exact ⟨body m (letters m.k), by rw [bytes, Pk.enc_lt (by omega)]; rfl⟩
end Wr
end Go.Proofs.Ytapcmmljdpallaa
