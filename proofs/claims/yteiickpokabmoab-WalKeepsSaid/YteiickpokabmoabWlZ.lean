import Derived.Test.YteiickpokabmoabWlY
namespace Go.Proofs.Yteiickpokabmoab
open Go.RowKit Go.Shelf
open Wl (Hd WS Log)

/-- sectors put in a row -/
def putS (S : List ByteArray) (k : Nat) (l : List ByteArray) : List ByteArray := S.take k ++ (l ++ S.drop (k + l.length))
theorem putS_nil (S : List ByteArray) (k : Nat) : putS S k [] = S := by simp [putS]
theorem putS_len {S : List ByteArray} {k : Nat} {l : List ByteArray} (h : k + l.length ≤ S.length) : (putS S k l).length = S.length := by simp [putS]; omega
theorem putS_cons {S : List ByteArray} {k : Nat} {s : ByteArray} {l : List ByteArray} (h : k + (s :: l).length ≤ S.length) : putS (S.set k s) (k + 1) l = putS S k (s :: l) := by
  rw [List.length_cons] at h
  unfold putS
  rw [List.length_cons, List.drop_set_of_lt (by omega), List.take_set, show k + 1 + l.length = k + (l.length + 1) by omega]
  have : (S.take (k + 1)).set k s = S.take k ++ [s] := by
    rw [List.take_succ_eq_append_getElem (by omega), List.set_append_right _ _ (by simp; omega)]
    simp [show k - min k S.length = 0 by omega]
  rw [this]; simp
theorem lay_all {S : List ByteArray} (h8 : D.A128 S) {k : Nat} {s : ByteArray} (hk : k < S.length) (hs : s.size = 128) : D.layS S k s = S.set k s := by
  unfold D.layS
  rw [D.laid_all (by rw [hs, List.getD_eq_getElem?_getD, List.getElem?_eq_getElem hk]; exact (h8.get hk).symm)]
theorem write_calm {d : D.DS} (h : d.ok) (hd : d.dead = false) (hl : d.left = 0) {k : Nat} (hk : k < d.S.length) {s : ByteArray} (hs : s.size = 128) : d.write (k : Int) s = (0, { d with S := d.S.set k s, R := d.R ++ [⟨k, s⟩] }) := by
  rw [D.DS.write_all hd (by omega) hs (by omega), Int.toNat_natCast, lay_all h.s128 hk hs, hl]
  rfl
theorem wsec_calm (l : List ByteArray) : ∀ (d : D.DS) (k : Nat), d.ok → d.dead = false → d.left = 0 → k + l.length ≤ d.S.length → (∀ s ∈ l, s.size = 128) →
    (Wl.wsec d k l).1 = 0 ∧ (Wl.wsec d k l).2.S = putS d.S k l ∧ (Wl.wsec d k l).2.ok ∧ (Wl.wsec d k l).2.dead = false ∧ (Wl.wsec d k l).2.left = 0 ∧ (Wl.wsec d k l).2.R.length = d.R.length + l.length := by
  induction l with
  | nil => intro d k h hd hl _ _; exact ⟨rfl, (putS_nil _ _).symm, h, hd, hl, rfl⟩
  | cons s l ih =>
    intro d k h hd hl hk h8
    have hk' := hk
    rw [List.length_cons] at hk'
    have e := write_calm h hd hl (k := k) (by omega) (h8 s List.mem_cons_self)
    have hok := D.DS.write_ok h (k : Int) s
    rw [e] at hok
    rw [wsec_cons, e, if_neg (by simp)]
    obtain ⟨a1, a2, a3, a4, a5, a6⟩ := ih { d with S := d.S.set k s, R := d.R ++ [⟨k, s⟩] } (k + 1) hok hd hl (by show k + 1 + l.length ≤ (d.S.set k s).length; rw [List.length_set]; omega) (fun x hx => h8 x (List.mem_cons_of_mem _ hx))
    refine ⟨a1, ?_, a3, a4, a5, ?_⟩
    · rw [a2]; exact putS_cons hk
    · rw [a6]; show (d.R ++ [_]).length + l.length = _; simp; omega
theorem layW_calm {d : D.DS} (h : d.ok) (hd : d.dead = false) (hl : d.left = 0) {k : Nat} {l : List ByteArray} (hk : k + l.length ≤ d.S.length) (h8 : ∀ s ∈ l, s.size = 128) (h2 : 2 ≤ d.S.length) (hh : Hd) :
    (Wl.layW d k l hh).1 = 0 ∧ (Wl.layW d k l hh).2.S = (putS d.S k l).set (hh.num % 2) (Wl.headB hh) ∧ (Wl.layW d k l hh).2.ok ∧ (Wl.layW d k l hh).2.dead = false ∧ (Wl.layW d k l hh).2.left = 0 ∧ (Wl.layW d k l hh).2.R.length = d.R.length + l.length + 1 := by
  obtain ⟨a1, a2, a3, a4, a5, a6⟩ := wsec_calm l d k h hd hl hk h8
  unfold Wl.layW
  rw [if_neg (by simp [a1])]
  have hlt : hh.num % 2 < (Wl.wsec d k l).2.S.length := by rw [a2, putS_len hk]; have := Nat.mod_lt hh.num (show 0 < 2 by decide); omega
  have e := write_calm a3 a4 a5 hlt (Wl.headB_size hh)
  have hok := D.DS.write_ok a3 ((hh.num % 2 : Nat) : Int) (Wl.headB hh)
  rw [e] at hok ⊢
  refine ⟨rfl, ?_, hok, a4, a5, ?_⟩
  · show (Wl.wsec d k l).2.S.set _ _ = _; rw [a2]
  · show ((Wl.wsec d k l).2.R ++ [_]).length = _; simp [a6]
end Go.Proofs.Yteiickpokabmoab
