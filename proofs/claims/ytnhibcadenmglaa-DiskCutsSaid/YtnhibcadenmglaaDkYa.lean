import Derived.Test.YtnhibcadenmglaaDkX
namespace Go.Proofs.Ytnhibcadenmglaa
open Go.RowKit

theorem lays_snoc (S : List ByteArray) (R : List Wr) (r : Wr) : lays S (R ++ [r]) = layS (lays S R) r.sec.toNat r.data := by unfold lays; rw [List.foldl_append]; rfl
theorem secs_snoc {L : Nat} {R : List Wr} {r : Wr} (h : secsOk L R = true) (hr : 0 ≤ r.sec ∧ r.sec < (L : Int)) : secsOk L (R ++ [r]) = true := by
  unfold secsOk at h ⊢
  rw [List.all_append, h]
  simp [hr]
theorem data_snoc {R : List Wr} {r : Wr} (h : dataOk R = true) (hr : r.data.size = 128) : dataOk (R ++ [r]) = true := by
  unfold dataOk at h ⊢
  rw [List.all_append, h]
  simp [hr]
theorem cutS_snoc (l : List ByteArray) {R : List Wr} (r : Wr) {n : Nat} (b : Nat) (h : n < R.length) : cutS l (R ++ [r]) n b = cutS l R n b := by
  unfold cutS
  rw [List.getElem?_append_left h, List.take_append_of_le_length (by omega)]
theorem cutS_last (l : List ByteArray) (R : List Wr) (r : Wr) (b : Nat) : cutS l (R ++ [r]) R.length b = layS (lays l R) r.sec.toNat (r.data.extract 0 b) := by
  unfold cutS
  rw [List.getElem?_append_right (Nat.le_refl _), Nat.sub_self, List.take_left]
  rfl
theorem cutS_all (l : List ByteArray) (R : List Wr) (b : Nat) : cutS l R R.length b = lays l R := by
  unfold cutS
  rw [List.getElem?_eq_none (Nat.le_refl _), List.take_length]
/-- a disk that is armed by (n, b), and one that is not, behind the same writes -/
structure Pl (l : List ByteArray) (n b : Nat) (A D : DS) : Prop where
  ca : A.ok
  cd : D.calm
  len : D.S.length = l.length
  lay : D.S = lays l D.R
  secs : secsOk l.length D.R = true
  data : dataOk D.R = true
  or : (D.R.length < n ∧ A.dead = false ∧ A.S = D.S ∧ A.R = D.R ∧ A.left = (n : Int) - D.R.length ∧ A.byt = (b : Int)) ∨ (n ≤ D.R.length ∧ A.dead = true ∧ A.S = cutS l D.R (n - 1) b ∧ A.R.length = n - 1)
theorem Pl.step {l : List ByteArray} {n b : Nat} {A D : DS} (h : Pl l n b A D) (hn : 1 ≤ n) (k : Int) (x : ByteArray) :
    ((A.write k x).1 = (D.write k x).1 ∨ (A.write k x).1 = 2) ∧ Pl l n b (A.write k x).2 (D.write k x).2 := by
  have hcd := h.cd.write k x
  have hca := DS.write_ok h.ca k x
  by_cases hk : 0 ≤ k ∧ k < (D.S.length : Int)
  · by_cases hx : x.size = 128
    · have eD := DS.write_all h.cd.live hk hx (by rw [h.cd.un]; decide)
      rw [eD] at hcd ⊢
      have l1 : (layS D.S k.toNat x).length = l.length := by rw [layS_len]; exact h.len
      have l2 : layS D.S k.toNat x = lays l (D.R ++ [⟨k, x⟩]) := by rw [lays_snoc, h.lay]
      have l3 := secs_snoc (r := ⟨k, x⟩) h.secs (by rw [← h.len]; exact hk)
      have l4 := data_snoc (r := ⟨k, x⟩) h.data hx
      rcases h.or with ⟨o1, o2, o3, o4, o5, o6⟩ | ⟨o1, o2, o3, o4⟩
      · have hkA : 0 ≤ k ∧ k < (A.S.length : Int) := by rw [o3]; exact hk
        by_cases h1 : A.left = 1
        · have eA := DS.write_cut o2 hkA hx h1
          rw [eA] at hca ⊢
          refine ⟨.inr rfl, hca, hcd, l1, l2, l3, l4, .inr ⟨?_, rfl, ?_, ?_⟩⟩
          · show n ≤ (D.R ++ [_]).length; rw [List.length_append, List.length_singleton]; omega
          · show layS A.S k.toNat (x.extract 0 A.byt.toNat) = cutS l (D.R ++ [⟨k, x⟩]) (n - 1) b
            rw [show n - 1 = D.R.length by omega, cutS_last, o3, h.lay, o6, Int.toNat_natCast]
          · show A.R.length = n - 1; rw [o4]; omega
        · have eA := DS.write_all o2 hkA hx h1
          rw [eA] at hca ⊢
          refine ⟨.inl rfl, hca, hcd, l1, l2, l3, l4, .inl ⟨?_, o2, ?_, ?_, ?_, o6⟩⟩
          · show (D.R ++ [_]).length < n; rw [List.length_append, List.length_singleton]; omega
          · show layS A.S k.toNat x = layS D.S k.toNat x; rw [o3]
          · show A.R ++ [_] = D.R ++ [_]; rw [o4]
          · show (if 0 < A.left then A.left - 1 else A.left) = (n : Int) - ((D.R ++ [_]).length : Int)
            rw [if_pos (by omega), List.length_append, List.length_singleton, o5]; omega
      · rw [DS.write_dead o2] at hca ⊢
        refine ⟨.inr rfl, hca, hcd, l1, l2, l3, l4, .inr ⟨?_, o2, ?_, o4⟩⟩
        · show n ≤ (D.R ++ [_]).length; rw [List.length_append, List.length_singleton]; omega
        · show A.S = cutS l (D.R ++ [_]) (n - 1) b; rw [cutS_snoc _ _ _ (by omega), o3]
    · rw [DS.write_size h.cd.live hk hx]
      rcases h.or with ⟨o1, o2, o3, o4, o5, o6⟩ | ⟨o1, o2, o3, o4⟩
      · rw [DS.write_size o2 (by rw [o3]; exact hk) hx]; exact ⟨.inl rfl, h⟩
      · rw [DS.write_dead o2]; exact ⟨.inr rfl, h⟩
  · rw [DS.write_none h.cd.live hk]
    rcases h.or with ⟨o1, o2, o3, o4, o5, o6⟩ | ⟨o1, o2, o3, o4⟩
    · rw [DS.write_none o2 (by rw [o3]; exact hk)]; exact ⟨.inl rfl, h⟩
    · rw [DS.write_dead o2]; exact ⟨.inr rfl, h⟩
theorem Pl.cutAll {l : List ByteArray} {n b : Nat} {A D : DS} (h : Pl l n b A D) (hl : loadE l = 0) : cutE l D.R (D.R.length : Int) ((0 : Nat) : Int) = 0 := by
  obtain ⟨h8, h0, h1⟩ := loadE_ok hl
  unfold cutE
  rw [if_neg (by omega), h.secs, all8_of h8, h.data, if_neg (by decide), if_neg (by decide), if_neg (by decide), if_neg (by unfold cutN; omega)]
theorem Pl.cutN {l : List ByteArray} {n b : Nat} {A D : DS} (h : Pl l n b A D) (hl : loadE l = 0) (hn : 1 ≤ n) (hb : b ≤ 128) (hle : n ≤ D.R.length) : cutE l D.R ((n - 1 : Nat) : Int) (b : Int) = 0 := by
  obtain ⟨h8, h0, h1⟩ := loadE_ok hl
  unfold cutE
  rw [if_neg (by omega), h.secs, all8_of h8, h.data, if_neg (by decide), if_neg (by decide), if_neg (by decide), if_neg (by unfold Go.Proofs.Ytnhibcadenmglaa.cutN; omega)]
theorem Pl.first {l : List ByteArray} {n b : Nat} (hl : loadE l = 0) (hn : 1 ≤ n) (hm : n ≤ 9223372036854775807) (hb : b ≤ 128) : Pl l n b { fresh l with left := (n : Int), byt := (b : Int) } (fresh l) := by
  obtain ⟨h8, h0, h1⟩ := loadE_ok hl
  refine ⟨⟨h8, by show (0 : Int) ≤ (n : Int); omega, by show (n : Int) ≤ _; omega, by show (0 : Int) ≤ (b : Int); omega, by show (b : Int) ≤ 128; omega, h0, h1⟩, calm_fresh hl, rfl, rfl, rfl, rfl, .inl ⟨by show 0 < n; omega, rfl, rfl, rfl, by show (n : Int) = (n : Int) - ((0 : Nat) : Int); omega, rfl⟩⟩

/-- two disks -/
structure Two (B : Nat) (w : World) (b xb : Nat) (F Fx : Nat → Prop) (d x : DS) : Prop where
  hd : Dk B w b F d
  hx : Dk B w xb Fx x
  dx : ∀ k, F k → ¬ Fx k
section
variable {B : Nat} {w w' : World} {b xb : Nat} {F Fx : Nat → Prop} {d x : DS}
theorem Two.below (h : Two B w b xb F Fx d x) (hb : Below w.heap.size w w') : Two B w' b xb F Fx d x := ⟨h.hd.below hb, h.hx.below hb, h.dx⟩
theorem Two.drew (h : Two B w b xb F Fx d x) : Two B w.drew b xb F Fx d x := ⟨h.hd.drew, h.hx.drew, h.dx⟩
theorem Two.stepd (h : Two B w b xb F Fx d x) {F' : Nat → Prop} {d' : DS} (hD : Dk B w' b F' d') (hm : Mv F F' w w') : Two B w' b xb F' Fx d' x := by
  refine ⟨hD, h.hx.mv hm (fun k hk hf => h.dx k hf hk), fun k hk hf => ?_⟩
  rcases hm.foot k hk with h1 | h1
  · exact h.dx k h1 hf
  · exact absurd (h.hx.ftlt k hf).2 (by omega)
theorem Two.stepx (h : Two B w b xb F Fx d x) {F' : Nat → Prop} {d' : DS} (hD : Dk B w' xb F' d') (hm : Mv Fx F' w w') : Two B w' b xb F F' d d' := by
  refine ⟨h.hd.mv hm (fun k hk hf => h.dx k hk hf), hD, fun k hk hf => ?_⟩
  rcases hm.foot k hf with h1 | h1
  · exact h.dx k hk h1
  · exact absurd (h.hd.ftlt k hk).2 (by omega)
end
/-- Raw, with the room behind it -/
theorem raw_cap {base : Nat} {w : World} {b : Nat} {F : Nat → Prop} {d : DS} (h : Dk base w b F d) (hl : d.R.length * 24 ≤ 140737488355328) :
    Calls Try.prog 21 #[.pointer (some ⟨b, 0, none⟩)] w fun e w' => ∃ ad cap ab, e = .returned (.slice ad d.R.length cap) ∧ Rw w' ad ab 0 d.R ∧ d.R.length ≤ cap ∧ cap ≤ 9223372036854775807 ∧ Below w.heap.size w w' := by
  refine (raw_any h hl).mono ?_
  rintro e w1 ⟨v, rfl, hown, hb⟩
  rcases own_form hown with ⟨rfl, hn⟩ | ⟨g, cap, rfl, _, hc, hm⟩
  · obtain ⟨ab, hr⟩ := (Rw.own (ad := none) (cap := 0) (n := 0) (by rw [hn] at hown; exact hown)).2
    exact ⟨none, 0, ab, by rw [hn], hr, by omega, by omega, hb⟩
  · obtain ⟨ab, hr⟩ := (Rw.own hown).2
    exact ⟨_, cap, ab, rfl, hr, hc, hm, hb⟩
end Go.Proofs.Ytnhibcadenmglaa
