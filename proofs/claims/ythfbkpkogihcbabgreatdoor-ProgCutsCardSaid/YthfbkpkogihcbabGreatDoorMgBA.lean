import Derived.Test.YthfbkpkogihcbabGreatDoorMgAY

section
namespace Go.Proofs.YthfbkpkogihcbabGreatDoor
open Go.RowKit Go.Shelf

theorem enc_one {n : Nat} (h : n < 128) : (Pk.enc n).length = 1 := by rw [Pk.enc_lt h]; rfl
theorem enc_two {n : Nat} (h : n ≤ 1024) : (Pk.enc n).length ≤ 2 := by
  by_cases h1 : n < 128
  · rw [enc_one h1]; decide
  · rw [Pk.enc_ge h1, List.length_cons, enc_one (by omega)]; decide
theorem fbs_len {x : In} {many : Nat} (hm : many ≤ 64) (h : Ok x many) : ∀ l : List UInt8, (∀ c ∈ l, c = 65 ∨ c = 66 ∨ c = 67 ∨ c = 78 ∨ c = 75) → (Pg.fbs x l).length ≤ 8 * l.length
  | [], _ => Nat.zero_le _
  | c :: r, hl => by
    have e : Pg.fbs x (c :: r) = (Pg.fieldB x c.toNat).data.toList ++ Pg.fbs x r := rfl
    have h1 := fbs_len hm h r (fun d hd => hl d (by simp [hd]))
    have h2 : (Pg.fieldB x c.toNat).data.toList.length ≤ 8 := by
      unfold Pg.fieldB
      by_cases h75 : c.toNat = 75
      · rw [if_pos h75]; exact Nat.le_refl 8
      · rw [if_neg h75]
        have h3 := get_ok hm h c.toNat h75 (by
          rcases hl c (by simp) with rfl | rfl | rfl | rfl | rfl
          · exact .inl rfl
          · exact .inr (.inl rfl)
          · exact .inr (.inr (.inl rfl))
          · exact .inr (.inr (.inr rfl))
          · exact absurd rfl h75)
        show (Pk.enc (Pg.get x c.toNat)).toArray.toList.length ≤ 8
        rw [List.toList_toArray, enc_one (by omega)]
        decide
    rw [e, List.length_append, List.length_cons]
    omega
theorem has_kinds (op : Int) : Pg.hasP op = (1, false, true) ∨ ((Pg.hasP op).1 ≤ 3 ∧ (Pg.hasP op).2.2 = false) := by
  unfold Pg.hasP
  repeat' split
  all_goals first | exact .inl rfl | exact .inr ⟨by decide, rfl⟩
theorem fbs_small {x : In} {many : Nat} (hm : many ≤ 64) (h : Ok x many) : ∀ l : List UInt8, (∀ c ∈ l, c = 65 ∨ c = 66 ∨ c = 67 ∨ c = 78) → (Pg.fbs x l).length = l.length
  | [], _ => rfl
  | c :: r, hl => by
    have e : Pg.fbs x (c :: r) = (Pg.fieldB x c.toNat).data.toList ++ Pg.fbs x r := rfl
    have h1 := fbs_small hm h r (fun d hd => hl d (by simp [hd]))
    have h75 : c.toNat ≠ 75 := by rcases hl c (by simp) with rfl | rfl | rfl | rfl <;> decide
    have h2 : (Pg.fieldB x c.toNat).data.toList.length = 1 := by
      unfold Pg.fieldB
      rw [if_neg h75]
      have h3 := get_ok hm h c.toNat h75 (by
        rcases hl c (by simp) with rfl | rfl | rfl | rfl
        · exact .inl rfl
        · exact .inr (.inl rfl)
        · exact .inr (.inr (.inl rfl))
        · exact .inr (.inr (.inr rfl)))
      show (Pk.enc (Pg.get x c.toNat)).toArray.toList.length = 1
      rw [List.toList_toArray, enc_one (by omega)]
    rw [e, List.length_append, List.length_cons]
    omega
theorem insB_ten {x : In} (hx : x.Fits) {many : Nat} (hm : many ≤ 64) (h : Pg.insE x many = 0) : (Pg.insB x).data.toList.length ≤ 10 := by
  have hok := ins_ok hx hm h
  obtain ⟨hf, _, h3⟩ := ins_fl x many h
  have hu := un_id (v := x.op) (by have := hok.op; omega) (by have := hok.op; omega)
  unfold Pg.insB
  rw [hf, goB_list, List.length_append]
  have h1 : (⟨(Pk.enc (Pg.un x.op)).toArray⟩ : ByteArray).data.toList.length = 1 := by
    show (Pk.enc (Pg.un x.op)).toArray.toList.length = 1
    rw [List.toList_toArray, enc_one (by have := hok.op; omega)]
  rw [h1]
  rcases has_kinds x.op with hk | ⟨hk1, hk2⟩
  · rw [hk]
    have e : Pg.fbs x (Pg.fl (1, false, true)) = (Pg.fieldB x 65).data.toList ++ ((Pg.fieldB x 75).data.toList ++ []) := rfl
    have e2 := fbs_small hm hok [65] (by simp)
    have e3 : Pg.fbs x [65] = (Pg.fieldB x 65).data.toList ++ [] := rfl
    have e4 : (Pg.fieldB x 75).data.toList.length = 8 := rfl
    rw [e3, List.append_nil] at e2
    rw [e, List.length_append, List.length_append, e2, e4]
    decide
  · have hs := fbs_small hm hok (Pg.fl (Pg.hasP x.op)) (fun c hc => by
      generalize Pg.hasP x.op = hp at *
      obtain ⟨r, nb, kb⟩ := hp
      simp only at hk2
      subst hk2
      unfold Pg.fl at hc
      rcases List.mem_append.1 hc with h | h
      · have := List.mem_of_mem_take h
        simp at this
        rcases this with h | h | h <;> simp [h]
      · cases nb <;> simp at h
        simp [h])
    rw [hs]
    generalize Pg.hasP x.op = hp at *
    obtain ⟨r, nb, kb⟩ := hp
    simp only at hk2 hk1
    subst hk2
    have : (Pg.fl (r, nb, false)).length ≤ 4 := by
      unfold Pg.fl
      rw [List.length_append, List.length_take]
      have : (([65, 66, 67] : List UInt8)).length = 3 := rfl
      cases nb <;> simp <;> omega
    omega
theorem flat_ten {many : Nat} (hm : many ≤ 64) : ∀ xs : List In, (∀ x ∈ xs, x.Fits) → (∀ x ∈ xs, Pg.insE x many = 0) → (xs.flatMap fun x => (Pg.insB x).data.toList).length ≤ 10 * xs.length
  | [], _, _ => Nat.zero_le _
  | x :: r, hx, hi => by
    rw [List.flatMap_cons, List.length_append, List.length_cons]
    have h1 := insB_ten (hx x (by simp)) hm (hi x (by simp))
    have h2 := flat_ten hm r (fun y hy => hx y (by simp [hy])) (fun y hy => hi y (by simp [hy]))
    omega
/-- the bytes of a program that may be are few, and are read as what it was -/
theorem unpack_pack {fuel : Int} {xs : List In} (hx : ∀ x ∈ xs, x.Fits) (h : (Pg.checkE fuel xs).1 = 0) : (Pg.packS fuel xs).size ≤ 643 ∧ Pg.unpackS (Pg.packS fuel xs) = ((fuel.toNat, xs), 0) := by
  obtain ⟨hf1, hf2, hn1, hn2⟩ := checkE_two fuel xs h
  have hi := check_ins fuel xs h
  have hu := un_id (v := fuel) (by omega) hf2
  have hun : Pg.un fuel = fuel.toNat := by omega
  have hul : Pg.un (xs.length : Int) = xs.length := by have := un_id (v := (xs.length : Int)) (by omega) (by omega); omega
  have e : Pg.packS fuel xs = ⟨(Pk.enc (Pg.un fuel) ++ (Pk.enc xs.length ++ xs.flatMap fun x => (Pg.insB x).data.toList)).toArray⟩ := by
    unfold Pg.packS Pg.packB
    rw [if_pos h, allB_flat, hul, List.append_assoc]
  have hsz : (Pg.packS fuel xs).size ≤ 643 := by
    rw [e]
    show (Pk.enc (Pg.un fuel) ++ (Pk.enc xs.length ++ xs.flatMap fun x => (Pg.insB x).data.toList)).toArray.size ≤ 643
    rw [List.size_toArray, List.length_append, List.length_append]
    have h1 := enc_two (n := Pg.un fuel) (by omega)
    have h2 := enc_one (n := xs.length) (by omega)
    have h3 := flat_ten hn2 xs hx hi
    omega
  refine ⟨hsz, ?_⟩
  generalize hb : Pg.packS fuel xs = b at *
  have hr : rest b 0 = Pk.enc (Pg.un fuel) ++ (Pk.enc xs.length ++ ((xs.flatMap fun x => (Pg.insB x).data.toList) ++ [])) := by rw [e, List.append_nil]; rfl
  obtain ⟨q1, hq1, hr1⟩ := num_at (most := 1024) hr (by omega) (un_lt _)
  obtain ⟨q2, hq2, hr2⟩ := list_at (most := 64) hr1 hn2 (by omega)
  obtain ⟨q3, hq3, hr3⟩ := many_at hn2 xs q2 [] [] hx hi hr2
  have hrow : Pg.rowS b = (xs, (q3, 0)) := by
    unfold Pg.rowS
    rw [hq1, hq2]
    exact hq3
  have hend : ¬ (q3 : Int) < (b.size : Int) := by
    have h1 := rest_len b q3
    rw [hr3] at h1
    simp at h1
    omega
  unfold Pg.unpackS
  rw [if_neg (by omega), hrow, hq1, if_neg (by unfold endE; simp only; rw [if_neg (fun k => hend k.2)]; simp), hu, if_neg (by simp [h]), hun]
end Go.Proofs.YthfbkpkogihcbabGreatDoor
end

section
namespace Go.Proofs.YthfbkpkogihcbabGreatDoor
open Go.RowKit Go.Shelf

theorem big8_fold8' (l : List UInt8) (h : l.length = 8) : Pk.big8 (Pk.fold8 l) = l := by
  match l, h with
  | [a, b, c, d, e, f, g, i], _ =>
    have ha := a.toNat_lt; have hb := b.toNat_lt; have hc := c.toNat_lt; have hd := d.toNat_lt; have he := e.toNat_lt; have hf := f.toNat_lt; have hg := g.toNat_lt; have hi := i.toNat_lt
    have hx : Pk.fold8 [a, b, c, d, e, f, g, i] = ((((((a.toNat * 256 + b.toNat) * 256 + c.toNat) * 256 + d.toNat) * 256 + e.toNat) * 256 + f.toNat) * 256 + g.toNat) * 256 + i.toNat := by simp [Pk.fold8]
    have key : ∀ (x : Nat) (u : UInt8), x % 256 = u.toNat → UInt8.ofNat (x % 256) = u := fun x u hu => by rw [hu]; simp
    unfold Pk.big8
    rw [hx]
    congr 1
    · exact key _ _ (by omega)
    congr 1
    · exact key _ _ (by omega)
    congr 1
    · exact key _ _ (by omega)
    congr 1
    · exact key _ _ (by omega)
    congr 1
    · exact key _ _ (by omega)
    congr 1
    · exact key _ _ (by omega)
    congr 1
    · exact key _ _ (by omega)
    congr 1
    · exact key _ _ (by omega)
theorem dec_back {b : ByteArray} {p most above : Nat} (ha : above ≠ 0) (h : numK b p most above = 0) : rest b p = Pk.enc (numV b p) ++ rest b (numQ b p) ∧ numV b p ≤ most ∧ numV b p < 18446744073709551616 := by
  unfold numK at h
  by_cases h1 : (Pk.dec 0 0 (rest b p)).1 = 0
  · rw [if_neg (by simpa using h1)] at h
    have hD : Pk.dec 0 0 (rest b p) = (0, (Pk.dec 0 0 (rest b p)).2.1, (Pk.dec 0 0 (rest b p)).2.2) := Prod.ext h1 rfl
    have hmost : ¬ most < (Pk.dec 0 0 (rest b p)).2.1 := fun hh => by rw [if_pos hh] at h; exact ha h
    obtain ⟨x, hx, hlt, hl, _, r, hr⟩ := Pk.dec_form _ _ _ _ _ (by decide) hD
    simp only [Nat.pow_zero, Nat.mul_one, Nat.zero_add] at hx hlt hl
    unfold numV numQ
    rw [hl, hx]
    rw [hx] at hmost
    refine ⟨?_, by omega, hlt⟩
    rw [rest_app hr]
    exact hr
  · rw [if_pos (by simpa using h1)] at h
    exact absurd h h1
theorem num_back {b : ByteArray} {most : Nat} {s : Nat × Nat} (h : (Pg.numS b most s).2.2 = 0) : s.2 = 0 ∧ rest b s.1 = Pk.enc (Pg.numS b most s).1 ++ rest b (Pg.numS b most s).2.1 ∧ (Pg.numS b most s).1 ≤ most ∧ (Pg.numS b most s).1 < 18446744073709551616 := by
  unfold Pg.numS at h ⊢
  by_cases h0 : s.2 = 0
  · rw [if_neg (by simp [h0])] at h ⊢
    by_cases hk : numK b s.1 most 21 = 0
    · rw [if_pos hk]
      exact ⟨h0, dec_back (by decide) hk⟩
    · rw [if_neg hk] at h; exact absurd h hk
  · rw [if_pos h0] at h; exact absurd h h0
theorem list_back {b : ByteArray} {most : Nat} {s : Nat × Nat} (h : (Pg.listS b most s).2.2 = 0) : s.2 = 0 ∧ rest b s.1 = Pk.enc (Pg.listS b most s).1 ++ rest b (Pg.listS b most s).2.1 ∧ (Pg.listS b most s).1 ≤ most ∧ (Pg.listS b most s).1 < 18446744073709551616 := by
  unfold Pg.listS at h ⊢
  by_cases h0 : s.2 = 0
  · rw [if_neg (by simp [h0])] at h ⊢
    by_cases hk : numK b s.1 most 23 = 0
    · rw [if_pos hk]
      exact ⟨h0, dec_back (by decide) hk⟩
    · rw [if_neg hk] at h; exact absurd h hk
  · rw [if_pos h0] at h; exact absurd h h0
theorem bits_back {b : ByteArray} {s : Nat × Nat} (h : (Pg.bitsS b s).2.2 = 0) : s.2 = 0 ∧ rest b s.1 = Pk.big8 (Pg.bitsS b s).1 ++ rest b (Pg.bitsS b s).2.1 ∧ (Pg.bitsS b s).1 < 18446744073709551616 := by
  unfold Pg.bitsS at h ⊢
  by_cases h0 : s.2 = 0
  · rw [if_neg (by simp [h0])] at h ⊢
    by_cases hk : bitsK b s.1 = 0
    · rw [if_pos hk]
      have hz : s.1 + 8 ≤ b.size := by
        unfold bitsK at hk
        by_cases h1 : b.size < s.1 + 8
        · rw [if_pos h1] at hk; cases hk
        · omega
      have hl : ((rest b s.1).take 8).length = 8 := by rw [List.length_take, rest_len]; omega
      refine ⟨h0, ?_, ?_⟩
      · show rest b s.1 = Pk.big8 (bitsV b s.1) ++ rest b (s.1 + 8)
        unfold bitsV
        rw [big8_fold8' _ hl]
        have : rest b (s.1 + 8) = (rest b s.1).drop 8 := by unfold rest; rw [List.drop_drop]
        rw [this, List.take_append_drop]
      · have := Pk.fold8_lt (rest b s.1) 8 (by rw [rest_len]; omega)
        exact this
    · rw [if_neg hk] at h; exact absurd h hk
  · rw [if_pos h0] at h; exact absurd h h0
namespace Pg
def setAll : List UInt8 → List Nat → In → In
  | c :: l, v :: vs, y => setAll l vs (setF y c.toNat v)
  | _, _, y => y
def encAll : List UInt8 → List Nat → List UInt8
  | c :: l, v :: vs => (if c.toNat = 75 then Pk.big8 v else Pk.enc v) ++ encAll l vs
  | _, _ => []
end Pg
theorem flds_back {b : ByteArray} : ∀ (l : List UInt8) (y : In) (s : Nat × Nat), (Pg.fldsS b l (y, s)).2.2 = 0 → s.2 = 0 ∧ ∃ vs : List Nat, vs.length = l.length ∧ (Pg.fldsS b l (y, s)).1 = Pg.setAll l vs y ∧ rest b s.1 = Pg.encAll l vs ++ rest b (Pg.fldsS b l (y, s)).2.1 ∧ ∀ v ∈ vs, v < 18446744073709551616
  | [], y, s, h => ⟨h, [], rfl, rfl, rfl, by simp⟩
  | c :: t, y, s, h => by
    have e : Pg.fldsS b (c :: t) (y, s) = Pg.fldsS b t ((Pg.fldS b y c.toNat s).1, (Pg.fldS b y c.toNat s).2) := rfl
    rw [e] at h ⊢
    obtain ⟨h1, vs, hl, hy, hr, hv⟩ := flds_back t _ _ h
    have hf : s.2 = 0 ∧ ∃ v, v < 18446744073709551616 ∧ (Pg.fldS b y c.toNat s).1 = Pg.setF y c.toNat v ∧ rest b s.1 = (if c.toNat = 75 then Pk.big8 v else Pk.enc v) ++ rest b (Pg.fldS b y c.toNat s).2.1 := by
      unfold Pg.fldS at h1 ⊢
      by_cases h75 : c.toNat = 75
      · rw [if_pos h75] at h1
        rw [if_pos h75]
        obtain ⟨k1, k2, k3⟩ := bits_back h1
        exact ⟨k1, _, k3, by rw [h75]; rfl, by rw [if_pos h75]; exact k2⟩
      · rw [if_neg h75] at h1
        rw [if_neg h75]
        obtain ⟨k1, k2, _, k3⟩ := num_back h1
        exact ⟨k1, _, k3, rfl, by rw [if_neg h75]; exact k2⟩
    obtain ⟨h0, v, hv0, hy0, hr0⟩ := hf
    refine ⟨h0, v :: vs, by simp [hl], ?_, ?_, ?_⟩
    · rw [hy, hy0]; rfl
    · show _ = ((if c.toNat = 75 then Pk.big8 v else Pk.enc v) ++ Pg.encAll t vs) ++ _
      rw [hr0, hr, List.append_assoc]
    · intro u hu
      rcases List.mem_cons.1 hu with rfl | hu
      · exact hv0
      · exact hv u hu
theorem setAll_op : ∀ (l : List UInt8) (vs : List Nat) (y : In), (Pg.setAll l vs y).op = y.op
  | [], _, _ => by unfold Pg.setAll; rfl
  | _ :: _, [], _ => rfl
  | c :: l, v :: vs, y => by
    unfold Pg.setAll
    rw [setAll_op l vs]
    unfold Pg.setF
    repeat' split
    all_goals rfl
theorem un_nat {v : Nat} (h : v < 18446744073709551616) : Pg.un (v : Int) = v := by unfold Pg.un; omega
theorem has_all (op : Int) : Pg.hasP op = (1, false, true) ∨ Pg.hasP op = (2, false, false) ∨ Pg.hasP op = (3, false, false) ∨ Pg.hasP op = (0, true, false) ∨ Pg.hasP op = (1, true, false) ∨ Pg.hasP op = (1, false, false) ∨ Pg.hasP op = (0, false, false) := by
  unfold Pg.hasP
  repeat' split
  all_goals simp
theorem enc_fbs {op : Int} {hp : Nat × Bool × Bool} (hh : hp = (1, false, true) ∨ hp = (2, false, false) ∨ hp = (3, false, false) ∨ hp = (0, true, false) ∨ hp = (1, true, false) ∨ hp = (1, false, false) ∨ hp = (0, false, false)) (vs : List Nat) (hl : vs.length = (Pg.fl hp).length) (hv : ∀ v ∈ vs, v < 18446744073709551616) : Pg.encAll (Pg.fl hp) vs = Pg.fbs (Pg.setAll (Pg.fl hp) vs ⟨op, 0, 0, 0, 0, 0⟩) (Pg.fl hp) := by
  rcases hh with rfl | rfl | rfl | rfl | rfl | rfl | rfl
  · match vs, hl with
    | [a, b], _ =>
      have ha := un_nat (hv a (by simp))
      simp [Pg.fl, Pg.encAll, Pg.fbs, Pg.setAll, Pg.setF, Pg.fieldB, Pg.get, ha]
  · match vs, hl with
    | [a, b], _ =>
      have ha := un_nat (hv a (by simp))
      have hb := un_nat (hv b (by simp))
      simp [Pg.fl, Pg.encAll, Pg.fbs, Pg.setAll, Pg.setF, Pg.fieldB, Pg.get, ha, hb]
  · match vs, hl with
    | [a, b, c], _ =>
      have ha := un_nat (hv a (by simp))
      have hb := un_nat (hv b (by simp))
      have hc := un_nat (hv c (by simp))
      simp [Pg.fl, Pg.encAll, Pg.fbs, Pg.setAll, Pg.setF, Pg.fieldB, Pg.get, ha, hb, hc]
  · match vs, hl with
    | [a], _ =>
      have ha := un_nat (hv a (by simp))
      simp [Pg.fl, Pg.encAll, Pg.fbs, Pg.setAll, Pg.setF, Pg.fieldB, Pg.get, ha]
  · match vs, hl with
    | [a, b], _ =>
      have ha := un_nat (hv a (by simp))
      have hb := un_nat (hv b (by simp))
      simp [Pg.fl, Pg.encAll, Pg.fbs, Pg.setAll, Pg.setF, Pg.fieldB, Pg.get, ha, hb]
  · match vs, hl with
    | [a], _ =>
      have ha := un_nat (hv a (by simp))
      simp [Pg.fl, Pg.encAll, Pg.fbs, Pg.setAll, Pg.setF, Pg.fieldB, Pg.get, ha]
  · match vs, hl with
    | [], _ => rfl
end Go.Proofs.YthfbkpkogihcbabGreatDoor
end

section
namespace Go.Proofs.YthfbkpkogihcbabGreatDoor
open Go.RowKit Go.Shelf

theorem setAll_fits {hp : Nat × Bool × Bool} {op : Nat} (hh : hp = (1, false, true) ∨ hp = (2, false, false) ∨ hp = (3, false, false) ∨ hp = (0, true, false) ∨ hp = (1, true, false) ∨ hp = (1, false, false) ∨ hp = (0, false, false)) (vs : List Nat) (hl : vs.length = (Pg.fl hp).length) (hv : ∀ v ∈ vs, v < 18446744073709551616) : (Pg.setAll (Pg.fl hp) vs ⟨op, 0, 0, 0, 0, 0⟩).k < 18446744073709551616 := by
  rcases hh with rfl | rfl | rfl | rfl | rfl | rfl | rfl
  · match vs, hl with
    | [a, b], _ => exact hv b (by simp)
  · match vs, hl with
    | [a, b], _ => exact (by decide : (0 : Nat) < 18446744073709551616)
  · match vs, hl with
    | [a, b, c], _ => exact (by decide : (0 : Nat) < 18446744073709551616)
  · match vs, hl with
    | [a], _ => exact (by decide : (0 : Nat) < 18446744073709551616)
  · match vs, hl with
    | [a, b], _ => exact (by decide : (0 : Nat) < 18446744073709551616)
  · match vs, hl with
    | [a], _ => exact (by decide : (0 : Nat) < 18446744073709551616)
  · match vs, hl with
    | [], _ => exact (by decide : (0 : Nat) < 18446744073709551616)
theorem ins_back {b : ByteArray} {s : Nat × Nat} {many : Nat} (h : (Pg.insS b s).2.2 = 0) (hi : Pg.insE (Pg.insS b s).1 many = 0) : s.2 = 0 ∧ rest b s.1 = (Pg.insB (Pg.insS b s).1).data.toList ++ rest b (Pg.insS b s).2.1 ∧ (Pg.insS b s).1.k < 18446744073709551616 := by
  obtain ⟨hf, _, _⟩ := ins_fl _ many hi
  unfold Pg.insS at h hi hf ⊢
  obtain ⟨h1, vs, hl, hy, hr, hv⟩ := flds_back _ _ _ h
  obtain ⟨h0, hr0, _, hlt⟩ := num_back h1
  have hop : (Pg.fldsS b (Pg.shape (Pg.numS b 64 s).1).1.flds.data.toList (⟨(Pg.numS b 64 s).1, 0, 0, 0, 0, 0⟩, (Pg.numS b 64 s).2)).1.op = ((Pg.numS b 64 s).1 : Int) := by rw [hy, setAll_op]
  rw [hop] at hf
  rw [hf] at hl hy hr hop hi h
  rw [hf]
  have hall := has_all ((Pg.numS b 64 s).1 : Int)
  refine ⟨h0, ?_, ?_⟩
  · unfold Pg.insB
    rw [hop, hf, goB_list, hr0, hr, enc_fbs (op := ((Pg.numS b 64 s).1 : Int)) hall vs hl hv, ← hy, List.append_assoc]
    show _ = (Pk.enc (Pg.un _)).toArray.toList ++ _
    rw [un_nat hlt, List.toList_toArray]
  · rw [hy]
    exact setAll_fits hall vs hl hv
theorem many_back {b : ByteArray} {many : Nat} : ∀ (n : Nat) (s : Nat × Nat) (acc : List In), (Pg.manyS b n s acc).2.2 = 0 → (∀ x ∈ (Pg.manyS b n s acc).1, Pg.insE x many = 0) → s.2 = 0 ∧ ∃ xs : List In, (Pg.manyS b n s acc).1 = acc ++ xs ∧ xs.length = n ∧ rest b s.1 = (xs.flatMap fun x => (Pg.insB x).data.toList) ++ rest b (Pg.manyS b n s acc).2.1 ∧ ∀ x ∈ xs, x.k < 18446744073709551616
  | 0, s, acc, h, _ => ⟨h, [], by rw [List.append_nil]; rfl, rfl, rfl, by simp⟩
  | n + 1, s, acc, h, hi => by
    have e : Pg.manyS b (n + 1) s acc = Pg.manyS b n (Pg.insS b s).2 (acc ++ [(Pg.insS b s).1]) := rfl
    rw [e] at h hi ⊢
    obtain ⟨h1, xs, hx, hl, hr, hk⟩ := many_back n _ _ h hi
    have hmem : Pg.insE (Pg.insS b s).1 many = 0 := hi _ (by rw [hx]; simp)
    obtain ⟨h0, hr0, hk0⟩ := ins_back h1 hmem
    refine ⟨h0, (Pg.insS b s).1 :: xs, by rw [hx, List.append_assoc]; rfl, by rw [List.length_cons, hl], ?_, ?_⟩
    · rw [List.flatMap_cons, hr0, hr, List.append_assoc]
    · intro y hy
      rcases List.mem_cons.1 hy with rfl | hy
      · exact hk0
      · exact hk y hy
/-- bytes that are read are those that are written -/
theorem pack_unpack {b : ByteArray} (h : (Pg.unpackS b).2 = 0) : (Pg.checkE ((Pg.unpackS b).1.1 : Int) (Pg.unpackS b).1.2).1 = 0 ∧ Pg.packS ((Pg.unpackS b).1.1 : Int) (Pg.unpackS b).1.2 = b ∧ ∀ x ∈ (Pg.unpackS b).1.2, x.k < 18446744073709551616 := by
  unfold Pg.unpackS at h ⊢
  by_cases h1 : 1024 < b.size
  · rw [if_pos h1] at h; cases h
  rw [if_neg h1] at h
  rw [if_neg h1]
  by_cases h2 : endE b ((Pg.rowS b).2.1 : Int) ((Pg.rowS b).2.2 : Int) = 0
  · rw [if_neg (by simp [h2])] at h
    rw [if_neg (by simp [h2])]
    by_cases h3 : (Pg.checkE ((Pg.numS b 1024 (0, 0)).1 : Int) (Pg.rowS b).1).1 = 0
    · rw [if_neg (by simp [h3])]
      refine ⟨h3, ?_⟩
      have hi := check_ins _ _ h3
      have he : (Pg.rowS b).2.2 = 0 ∧ b.size ≤ (Pg.rowS b).2.1 := by
        unfold endE at h2
        by_cases h4 : ((Pg.rowS b).2.2 : Int) = 0 ∧ ((Pg.rowS b).2.1 : Int) < (b.size : Int)
        · rw [if_pos h4] at h2; cases h2
        · rw [if_neg h4] at h2; exact ⟨by omega, by omega⟩
      have hrow : Pg.rowS b = Pg.manyS b (Pg.listS b 64 (Pg.numS b 1024 (0, 0)).2).1 (Pg.listS b 64 (Pg.numS b 1024 (0, 0)).2).2 [] := rfl
      obtain ⟨k1, xs, hx, hl, hr, hk⟩ := many_back (many := (Pg.rowS b).1.length) _ _ _ (by rw [← hrow]; exact he.1) (by rw [← hrow]; exact hi)
      rw [← hrow, List.nil_append] at hx
      rw [← hrow] at hr
      obtain ⟨k2, hr2, hm2, hlt2⟩ := list_back k1
      obtain ⟨_, hr3, hm3, hlt3⟩ := num_back k2
      have hend : rest b (Pg.rowS b).2.1 = [] := List.eq_nil_of_length_eq_zero (by rw [rest_len]; omega)
      rw [hend, List.append_nil] at hr
      rw [hr] at hr2
      rw [hr2] at hr3
      rw [hx]
      refine ⟨?_, hk⟩
      unfold Pg.packS Pg.packB
      rw [hx] at h3
      rw [if_pos h3, allB_flat, un_nat hlt3, hl, un_nat hlt2, List.append_assoc, ← hr3]
      rfl
    · rw [if_pos h3] at h; cases h
  · rw [if_pos h2] at h; cases h
end Go.Proofs.YthfbkpkogihcbabGreatDoor
end

section
namespace Go.Proofs.YthfbkpkogihcbabGreatDoor
open Go.RowKit Go.Shelf

theorem idx_at (c : UInt8) : ∀ (l r : List UInt8), c ∉ l → Lib.indexByte (l ++ c :: r) c = (l.length : Int)
  | [], r, _ => by show (if c == c then (0 : Int) else _) = _; rw [if_pos (by simp)]; rfl
  | d :: l, r, h => by
    have hd : d ≠ c := fun e => h (by simp [e])
    have ih := idx_at c l r (fun k => h (by simp [k]))
    show (if d == c then (0 : Int) else if Lib.indexByte (l ++ c :: r) c == -1 then -1 else Lib.indexByte (l ++ c :: r) c + 1) = _
    rw [if_neg (by simpa using hd), ih, if_neg (by simp), List.length_cons]
    rfl
theorem idx_no (c : UInt8) : ∀ (l : List UInt8), c ∉ l → Lib.indexByte l c = -1
  | [], _ => rfl
  | d :: l, h => by
    have hd : d ≠ c := fun e => h (by simp [e])
    have ih := idx_no c l (fun k => h (by simp [k]))
    show (if d == c then (0 : Int) else if Lib.indexByte l c == -1 then -1 else Lib.indexByte l c + 1) = _
    rw [if_neg (by simpa using hd), ih, if_pos (by decide)]
namespace Pg
def mk (l : List UInt8) : ByteArray := ⟨l.toArray⟩
end Pg
theorem mk_ext (L : List UInt8) (a b : Nat) : (Pg.mk L).extract a b = Pg.mk ((L.drop a).take (b - a)) := by
  unfold Pg.mk
  apply ByteArray.ext
  rw [ByteArray.data_extract]
  apply Array.ext'
  rw [Array.toList_extract, List.extract_eq_take_drop]
theorem mk_size (L : List UInt8) : (Pg.mk L).size = L.length := by show L.toArray.size = _; simp
theorem mk_data (L : List UInt8) : (Pg.mk L).data.toList = L := by show L.toArray.toList = _; simp
theorem mk_self (b : ByteArray) : Pg.mk b.data.toList = b := rfl
theorem mk_head (l r : List UInt8) (n : Nat) (h : n = l.length) : (Pg.mk (l ++ r)).extract 0 n = Pg.mk l := by
  subst h; rw [mk_ext, List.drop_zero, Nat.sub_zero, List.take_left]
theorem mk_tail (l r : List UInt8) (n : Nat) (h : n = l.length) : (Pg.mk (l ++ r)).extract n (Pg.mk (l ++ r)).size = Pg.mk r := by
  subst h
  rw [mk_ext, mk_size, List.drop_left, List.length_append, Nat.add_sub_cancel_left, List.take_length]
theorem split_join : ∀ (ws : List (List UInt8)) (w : List UInt8) (n : Nat), 32 ∉ w → (∀ u ∈ ws, 32 ∉ u) → ws.length ≤ n → Pg.splitW n (Pg.mk (w ++ ws.flatMap (fun u => 32 :: u))) = Pg.mk w :: ws.map Pg.mk
  | [], w, n, hw, _, _ => by
    rw [List.flatMap_nil, List.append_nil]
    cases n with
    | zero => rfl
    | succ m =>
      unfold Pg.splitW
      rw [mk_data, idx_no 32 w hw, if_pos (by decide)]
      rfl
  | u :: t, w, 0, _, _, h => by simp at h
  | u :: t, w, m + 1, hw, hu, h => by
    unfold Pg.splitW
    rw [List.flatMap_cons, List.cons_append, mk_data, idx_at 32 w _ hw, if_neg (by omega), Int.toNat_natCast, mk_head w _ _ rfl]
    have e : w ++ 32 :: (u ++ t.flatMap (fun u => 32 :: u)) = (w ++ [32]) ++ (u ++ t.flatMap (fun u => 32 :: u)) := by simp
    rw [e, mk_tail (w ++ [32]) _ _ (by simp), split_join t u m (hu u (by simp)) (fun v hv => hu v (by simp [hv])) (by simp at h; omega)]
    rfl
theorem lines_join : ∀ (t : List (List UInt8)) (l : List UInt8) (n : Nat), 10 ∉ l → (∀ u ∈ t, 10 ∉ u) → t.length < n → Pg.linesG n (Pg.mk (l ++ 10 :: t.flatMap (fun u => u ++ [10]))) = Pg.mk (l ++ [10]) :: t.map (fun u => Pg.mk (u ++ [10]))
  | t, l, 0, _, _, h => by omega
  | t, l, m + 1, hl, ht, h => by
    have he : Pg.endL (Pg.mk (l ++ 10 :: t.flatMap (fun u => u ++ [10]))) = (l ++ [10]).length := by
      unfold Pg.endL
      rw [mk_data, idx_at 10 l _ hl, if_neg (by omega), Int.toNat_natCast, List.length_append]
      rfl
    have e : l ++ 10 :: t.flatMap (fun u => u ++ [10]) = (l ++ [10]) ++ t.flatMap (fun u => u ++ [10]) := by simp
    unfold Pg.linesG
    rw [he, e, mk_head _ _ _ rfl, mk_tail _ _ _ rfl]
    congr 1
    cases t with
    | nil => rw [if_pos (by rw [mk_size]; rfl)]; rfl
    | cons u r =>
      rw [if_neg (by rw [mk_size, List.flatMap_cons, List.length_append, List.length_append]; simp), List.flatMap_cons, List.append_assoc]
      exact lines_join r u m (ht u (by simp)) (fun v hv => ht v (by simp [hv])) (by simp at h; omega)
theorem lines_many : ∀ (t : List (List UInt8)), t.length ≤ (t.flatMap (fun u => u ++ [10])).length
  | [] => Nat.le_refl _
  | u :: r => by
    have := lines_many r
    rw [List.flatMap_cons, List.length_append, List.length_append, List.length_cons]
    have e : ([10] : List UInt8).length = 1 := rfl
    omega
theorem linesP_join (t : List (List UInt8)) (l : List UInt8) (hl : 10 ∉ l) (ht : ∀ u ∈ t, 10 ∉ u) : Pg.linesP (Pg.mk (l ++ 10 :: t.flatMap (fun u => u ++ [10]))) = Pg.mk (l ++ [10]) :: t.map (fun u => Pg.mk (u ++ [10])) := by
  unfold Pg.linesP
  refine lines_join t l _ hl ht ?_
  have := lines_many t
  rw [mk_size, List.length_append, List.length_cons]
  omega
end Go.Proofs.YthfbkpkogihcbabGreatDoor
end

section
namespace Go.Proofs.YthfbkpkogihcbabGreatDoor
open Go.RowKit Go.Shelf

namespace Pg
/-- no blank, no end of a line -/
def Pure (l : List UInt8) : Prop := 32 ∉ l ∧ 10 ∉ l
end Pg
theorem pure_app {l r : List UInt8} (h : Pg.Pure l) (k : Pg.Pure r) : Pg.Pure (l ++ r) := ⟨fun m => (List.mem_append.1 m).elim h.1 k.1, fun m => (List.mem_append.1 m).elim h.2 k.2⟩
theorem pure_dig {l : List UInt8} (h : l.all digB = true) : Pg.Pure l := by
  rw [List.all_eq_true] at h
  exact ⟨fun m => absurd (h _ m) (by decide), fun m => absurd (h _ m) (by decide)⟩
theorem pure_dec (n : Nat) : Pg.Pure (Lib.decDigits n) := pure_dig (digits_all n)
theorem pure_itoa (k : Int) : Pg.Pure (Lib.itoa k) := by
  unfold Lib.itoa
  split
  · exact pure_app (l := [45]) ⟨by decide, by decide⟩ (pure_dec _)
  · exact pure_dec _
theorem pure_amt (a : Nat) : Pg.Pure (amtB a).data.toList := by
  unfold amtB
  split
  · exact ⟨by decide, by decide⟩
  split
  · exact ⟨by decide, by decide⟩
  split
  · exact ⟨by decide, by decide⟩
  rw [ByteArray.data_append, Array.toList_append, ByteArray.data_append, Array.toList_append]
  exact pure_app (pure_app (by show Pg.Pure (Lib.decDigits _).toArray.toList; rw [List.toList_toArray]; exact pure_dec _) ⟨by decide, by decide⟩) (by show Pg.Pure (Lib.itoa _).toArray.toList; rw [List.toList_toArray]; exact pure_itoa _)
theorem pure_text (a : Nat) : Pg.Pure (textB a).data.toList := by
  unfold textB
  split
  · exact pure_amt _
  · rw [ByteArray.data_append, Array.toList_append]
    exact pure_app ⟨by decide, by decide⟩ (pure_amt _)
theorem pure_field (l v : Nat) : Pg.Pure (Pg.fieldT l v).data.toList := by
  unfold Pg.fieldT
  split
  · exact pure_text v
  split
  · show Pg.Pure (Lib.decDigits v).toArray.toList; rw [List.toList_toArray]; exact pure_dec v
  · rw [ByteArray.data_append, Array.toList_append]
    exact pure_app ⟨by decide, by decide⟩ (by show Pg.Pure (Lib.decDigits v).toArray.toList; rw [List.toList_toArray]; exact pure_dec v)
theorem dec_short {v : Nat} (h : v ≤ 1024) : (Lib.decDigits v).length ≤ 4 := by
  by_cases h1 : v < 10
  · rw [Lib.decDigits]; simp [h1]
  · rw [digits_rec (by omega), List.length_append]
    by_cases h2 : v / 10 < 10
    · rw [Lib.decDigits]; simp [h2]
    · rw [digits_rec (by omega), List.length_append]
      by_cases h3 : v / 10 / 10 < 10
      · rw [Lib.decDigits]; simp [h3]
      · rw [digits_rec (by omega), List.length_append, Lib.decDigits]
        simp [show v / 10 / 10 / 10 < 10 by omega]
theorem num_there {v : Nat} (h : v ≤ 1024) : Pg.numP ⟨(Lib.decDigits v).toArray⟩ = (v, true) := by
  have hs : (⟨(Lib.decDigits v).toArray⟩ : ByteArray).size ≤ 4 := by show (Lib.decDigits v).toArray.size ≤ 4; rw [List.size_toArray]; exact dec_short h
  have hw : wholeB ⟨(Lib.decDigits v).toArray⟩ = true := by rw [whole_list, mk_list]; exact digits_whole v
  have hp := pu_whole hw (by omega)
  have hv : numD ⟨(Lib.decDigits v).toArray⟩ = v := by unfold numD; rw [mk_list]; exact dec_digits v
  unfold Pg.numP
  rw [if_neg (by omega), hp, hv]
  simp
theorem reg_there {v : Nat} (h : v < 8) : Pg.regP ((⟨#[114]⟩ : ByteArray) ++ ⟨(Lib.decDigits v).toArray⟩) = (v, true) := by
  have e : ((⟨#[114]⟩ : ByteArray) ++ ⟨(Lib.decDigits v).toArray⟩).data.toList = 114 :: Lib.decDigits v := by
    rw [ByteArray.data_append, Array.toList_append]; simp
  have hp : Lib.hasPrefix (114 :: Lib.decDigits v) [114] = true := by unfold Lib.hasPrefix; simp [List.isPrefixOf]
  have hc : Pg.cutR ((⟨#[114]⟩ : ByteArray) ++ ⟨(Lib.decDigits v).toArray⟩) = ⟨(Lib.decDigits v).toArray⟩ := by
    unfold Pg.cutR Lib.trimPrefix
    rw [e, if_pos hp]
    rfl
  unfold Pg.regP
  rw [e, if_pos hp, hc, num_there (by omega)]
  simp [h]
end Go.Proofs.YthfbkpkogihcbabGreatDoor
end

section
namespace Go.Proofs.YthfbkpkogihcbabGreatDoor
open Go.RowKit Go.Shelf

namespace Pg
def fts (x : In) (l : List UInt8) : List (List UInt8) := l.map fun c => (fieldT c.toNat (get x c.toNat)).data.toList
end Pg
theorem goT_list (x : In) : ∀ (l : List UInt8) (acc : ByteArray), (Pg.goT x l acc).data.toList = acc.data.toList ++ (Pg.fts x l).flatMap (fun u => 32 :: u)
  | [], acc => by unfold Pg.goT Pg.fts; simp
  | c :: r, acc => by
    unfold Pg.goT
    rw [goT_list x r, ByteArray.data_append, Array.toList_append, ByteArray.data_append, Array.toList_append]
    unfold Pg.fts
    rw [List.map_cons, List.flatMap_cons, List.append_assoc]
    rfl
theorem named_word : ∀ n : Fin 24, (Pg.named (Pg.shape ((n.val + 1 : Nat) : Int)).1.word).2 = true ∧ (Pg.named (Pg.shape ((n.val + 1 : Nat) : Int)).1.word).1.op = ((n.val + 1 : Nat) : Int) ∧ (Pg.named (Pg.shape ((n.val + 1 : Nat) : Int)).1.word).1.flds.data.toList = (Pg.shape ((n.val + 1 : Nat) : Int)).1.flds.data.toList ∧ (32 : UInt8) ∉ (Pg.shape ((n.val + 1 : Nat) : Int)).1.word.data.toList ∧ (10 : UInt8) ∉ (Pg.shape ((n.val + 1 : Nat) : Int)).1.word.data.toList := by decide +kernel
theorem k_can {x : In} (hx : x.Fits) {many : Nat} (hm : many ≤ 64) (h : Pg.insE x many = 0) (hk : (Pg.hasP x.op).2.2 = true) : Gn.canonW x.k = x.k := by
  rw [insE_ref x hx many hm] at h
  by_cases hw : (Pg.wordP x.op).toList = []
  · rw [if_pos hw] at h; cases h
  rw [if_neg hw] at h
  obtain ⟨_, _, _, _, h5⟩ := wrong_zero h
  unfold Pg.kE at h5
  rw [hk, if_pos rfl] at h5
  by_cases hv : Gn.canonW x.k = x.k
  · exact hv
  · rw [if_pos hv] at h5; cases h5
theorem fl_k {hp : Nat × Bool × Bool} (h : (75 : UInt8) ∈ Pg.fl hp) : hp.2.2 = true := by
  obtain ⟨r, nb, kb⟩ := hp
  unfold Pg.fl at h
  rcases List.mem_append.1 h with h | h
  · have := List.mem_of_mem_take h
    simp at this
  · cases kb with
    | true => rfl
    | false => cases nb <;> simp at h
theorem field_there {x : In} (hx : x.Fits) {many : Nat} (hm : many ≤ 64) (h : Pg.insE x many = 0) (c : UInt8) (hc : c ∈ Pg.fl (Pg.hasP x.op)) : Pg.fieldP c.toNat (Pg.fieldT c.toNat (Pg.get x c.toNat)) = (Pg.get x c.toNat, true) := by
  have hok := ins_ok hx hm h
  have ea := un_id hok.a.1 (by have := hok.a; omega)
  have eb := un_id hok.b.1 (by have := hok.b; omega)
  have ec := un_id hok.c.1 (by have := hok.c; omega)
  have en := un_id hok.n.1 (by have := hok.n; omega)
  rcases fl_mem hc with rfl | rfl | rfl | rfl | rfl
  · exact reg_there (v := Pg.un x.a) (by have := hok.a; omega)
  · exact reg_there (v := Pg.un x.b) (by have := hok.b; omega)
  · exact reg_there (v := Pg.un x.c) (by have := hok.c; omega)
  · exact num_there (v := Pg.un x.n) (by have := hok.n; omega)
  · show ((parseP (textB x.k)).1, (parseP (textB x.k)).2 == 0) = (x.k, true)
    rw [parse_there x.k hx.k, k_can hx hm h (fl_k hc)]
    rfl
theorem goP_at {x : In} (W : List ByteArray) : ∀ (l : List UInt8) (i : Nat) (y : In), (∀ c ∈ l, Pg.fieldP c.toNat (Pg.fieldT c.toNat (Pg.get x c.toNat)) = (Pg.get x c.toNat, true)) → W.drop (1 + i) = (Pg.fts x l).map Pg.mk → Pg.goP W l i y = (Pg.sets x l y, true)
  | [], _, _, _, _ => rfl
  | c :: r, i, y, hf, hd => by
    have hd' : W.drop (1 + i) = Pg.fieldT c.toNat (Pg.get x c.toNat) :: (Pg.fts x r).map Pg.mk := hd
    have h1 : W[1 + i]! = Pg.fieldT c.toNat (Pg.get x c.toNat) := by
      have h2 : W[1 + i]? = some (Pg.fieldT c.toNat (Pg.get x c.toNat)) := by
        have := congrArg (fun l => l[0]?) hd'
        simp only [List.getElem?_drop, Nat.add_zero] at this
        exact this
      rw [List.getElem!_eq_getElem?_getD, h2]; rfl
    have h3 : W.drop (1 + (i + 1)) = (Pg.fts x r).map Pg.mk := by
      rw [show 1 + (i + 1) = 1 + i + 1 by omega, ← List.drop_drop, hd']
      rfl
    unfold Pg.goP
    rw [h1, hf c (by simp), if_neg (by simp)]
    exact goP_at W r (i + 1) _ (fun d hd => hf d (by simp [hd])) h3
theorem ins_text {x : In} (hx : x.Fits) {many : Nat} (hm : many ≤ 64) (h : Pg.insE x many = 0) : Pg.insP (Pg.insT x) = (x, true) ∧ 10 ∉ (Pg.insT x).data.toList := by
  have hok := ins_ok hx hm h
  obtain ⟨hf, _, h3⟩ := ins_fl x many h
  obtain ⟨n, hn⟩ := ins_op x many h
  obtain ⟨n1, n2, n3, n4, n5⟩ := named_word n
  rw [← hn] at n1 n2 n3 n4 n5
  have hT : (Pg.insT x).data.toList = (Pg.shape x.op).1.word.data.toList ++ (Pg.fts x (Pg.fl (Pg.hasP x.op))).flatMap (fun u => 32 :: u) := by unfold Pg.insT; rw [goT_list, hf]
  have hpure : ∀ u ∈ Pg.fts x (Pg.fl (Pg.hasP x.op)), Pg.Pure u := fun u hu => by
    unfold Pg.fts at hu
    obtain ⟨c, _, rfl⟩ := List.mem_map.1 hu
    exact pure_field _ _
  have hlen : (Pg.fl (Pg.hasP x.op)).length ≤ 3 := by
    have := (Pg.shape_ok x.op).1
    rw [← hf, Array.length_toList]
    exact this
  have hS : Pg.splitW 4 (Pg.insT x) = (Pg.shape x.op).1.word :: (Pg.fts x (Pg.fl (Pg.hasP x.op))).map Pg.mk := by
    rw [← mk_self (Pg.insT x), hT, split_join _ _ 4 n4 (fun u hu => (hpure u hu).1) (by unfold Pg.fts; rw [List.length_map]; omega)]
    rfl
  have hz : (Pg.named (Pg.shape x.op).1.word).1.flds.size = (Pg.fl (Pg.hasP x.op)).length := by
    rw [← hf, ← n3, Array.length_toList]; rfl
  refine ⟨?_, ?_⟩
  · unfold Pg.insP
    have h0 : ((Pg.shape x.op).1.word :: (Pg.fts x (Pg.fl (Pg.hasP x.op))).map Pg.mk)[0]! = (Pg.shape x.op).1.word := rfl
    rw [hS, h0]
    rw [if_neg (by
      rintro (k | k)
      · rw [n1] at k; cases k
      · apply k
        rw [hz, List.length_cons, List.length_map]
        unfold Pg.fts
        rw [List.length_map, Nat.add_comm])]
    rw [n2, n3, hf, goP_at (x := x) _ _ 0 _ (fun c hc => field_there hx hm h c hc) rfl, sets_ok hm hok h3]
  · rw [hT]
    intro hm2
    rcases List.mem_append.1 hm2 with k | k
    · exact n5 k
    · obtain ⟨u, hu, hk⟩ := List.mem_flatMap.1 k
      rcases List.mem_cons.1 hk with k2 | k2
      · cases k2
      · exact (hpure u hu).2 k2
end Go.Proofs.YthfbkpkogihcbabGreatDoor
end

section
namespace Go.Proofs.YthfbkpkogihcbabGreatDoor
open Go.RowKit Go.Shelf

theorem suf_ten (l : List UInt8) : Lib.hasSuffix (l ++ [10]) [10] = true := by unfold Lib.hasSuffix; simp
theorem cut_ten (l : List UInt8) : Pg.cutN (Pg.mk (l ++ [10])) = Pg.mk l := by
  unfold Pg.cutN Lib.trimSuffix
  rw [mk_data, if_pos (suf_ten l)]
  show Pg.mk ((l ++ [10]).take ((l ++ [10]).length - 1)) = _
  rw [List.length_append, show ([10] : List UInt8).length = 1 from rfl, Nat.add_sub_cancel, List.take_left]
theorem line_ins {x : In} (hx : x.Fits) {many : Nat} (hm : many ≤ 64) (h : Pg.insE x many = 0) (k : Nat) (hk : k ≠ 1) (f : Int) (xs : List In) (hl : xs.length ≤ 64) : Pg.lineP k (Pg.mk ((Pg.insT x).data.toList ++ [10])) f xs = ((f, xs ++ [x]), true) := by
  unfold Pg.lineP
  rw [mk_data, if_neg (by rw [suf_ten]; simp), if_neg hk, cut_ten, mk_self, (ins_text hx hm h).1]
  unfold Pg.addP
  rw [if_pos ⟨rfl, hl⟩]
theorem line_fuel {n : Nat} (h : n ≤ 1024) (f : Int) (xs : List In) : Pg.lineP 1 (Pg.mk (([102, 117, 101, 108, 32] ++ Lib.decDigits n) ++ [10])) f xs = (((n : Int), xs), true) := by
  unfold Pg.lineP
  have hp : Lib.hasPrefix ([102, 117, 101, 108, 32] ++ Lib.decDigits n) [102, 117, 101, 108, 32] = true := by unfold Lib.hasPrefix; simp [List.isPrefixOf]
  have hc : Pg.cutF (Pg.mk ([102, 117, 101, 108, 32] ++ Lib.decDigits n)) = ⟨(Lib.decDigits n).toArray⟩ := by
    unfold Pg.cutF Lib.trimPrefix
    rw [mk_data, if_pos hp]
    rfl
  rw [mk_data, if_neg (by rw [suf_ten]; simp), if_pos rfl, cut_ten]
  unfold Pg.fuelP
  rw [mk_data, if_pos hp, hc, num_there h]
theorem allT_flat : ∀ (xs : List In) (acc : List UInt8), Pg.allT xs acc = acc ++ (xs.map fun x => (Pg.insT x).data.toList).flatMap (fun u => u ++ [10])
  | [], acc => by unfold Pg.allT; simp
  | x :: r, acc => by
    unfold Pg.allT
    rw [allT_flat r, List.map_cons, List.flatMap_cons, List.append_assoc, ByteArray.data_append, Array.toList_append]
/-- the text of a program that may be is read as what it was -/
theorem parse_print {fuel : Int} {xs : List In} (hx : ∀ x ∈ xs, x.Fits) (h : (Pg.checkE fuel xs).1 = 0) : Pg.parseS (Pg.printS fuel xs) = ((fuel, xs), (0, 0)) := by
  obtain ⟨hf1, hf2, hn1, hn2⟩ := checkE_two fuel xs h
  have hi := check_ins fuel xs h
  obtain ⟨n, hn⟩ : ∃ n : Nat, fuel = (n : Int) := ⟨fuel.toNat, by omega⟩
  have hF : (Pg.fuelT fuel).data.toList = ([102, 117, 101, 108, 32] ++ Lib.decDigits n) ++ [10] := by
    unfold Pg.fuelT
    rw [hn, Lib.itoa_nonneg, ByteArray.data_append, Array.toList_append, ByteArray.data_append, Array.toList_append]
  have hfu : (10 : UInt8) ∉ [102, 117, 101, 108, 32] ++ Lib.decDigits n := fun k => (List.mem_append.1 k).elim (by decide) (pure_dec n).2
  have e : Pg.printS fuel xs = Pg.mk (([102, 117, 101, 108, 32] ++ Lib.decDigits n) ++ 10 :: (xs.map fun x => (Pg.insT x).data.toList).flatMap (fun u => u ++ [10])) := by
    unfold Pg.printS Pg.printT
    rw [if_pos h, allT_flat, hF, List.append_assoc]
    rfl
  have hL : Pg.linesP (Pg.printS fuel xs) = Pg.mk (([102, 117, 101, 108, 32] ++ Lib.decDigits n) ++ [10]) :: (xs.map fun x => (Pg.insT x).data.toList).map (fun u => Pg.mk (u ++ [10])) := by
    rw [e]
    refine linesP_join _ _ hfu (fun u hu => ?_)
    obtain ⟨x, hm, rfl⟩ := List.mem_map.1 hu
    exact (ins_text (hx x hm) hn2 (hi x hm)).2
  unfold Pg.parseS
  generalize Pg.linesP (Pg.printS fuel xs) = LS at *
  have hlen : LS.length = xs.length + 1 := by rw [hL]; simp
  have hat : ∀ k, k < xs.length → LS[k + 1]! = Pg.mk ((Pg.insT xs[k]!).data.toList ++ [10]) := fun k hk => by
    have h2 : LS[k + 1]? = some (Pg.mk ((Pg.insT xs[k]!).data.toList ++ [10])) := by
      rw [hL, List.getElem?_cons_succ, List.getElem?_map, List.getElem?_map, List.getElem?_eq_getElem hk, getElem!_pos xs k hk]
      rfl
    rw [List.getElem!_eq_getElem?_getD, h2]; rfl
  have hat0 : LS[0]! = Pg.mk (([102, 117, 101, 108, 32] ++ Lib.decDigits n) ++ [10]) := by rw [hL]; rfl
  have hline : ∀ k, k < xs.length → ∀ f ys, ys.length ≤ 64 → Pg.lineP (k + 1 + 1) LS[k + 1]! f ys = ((f, ys ++ [xs[k]!]), true) := fun k hk f ys hy => by
    have hm : xs[k]! ∈ xs := by rw [getElem!_pos xs k hk]; exact List.getElem_mem hk
    rw [hat k hk]
    exact line_ins (hx _ hm) hn2 (hi _ hm) _ (by omega) f ys hy
  have hst : ∀ k, k ≤ xs.length → Pg.stP LS (k + 1) = (fuel, xs.take k) := by
    intro k
    induction k with
    | zero =>
      intro _
      show (Pg.lineP 1 LS[0]! 0 []).1 = _
      rw [hat0, line_fuel (by omega), hn]
      rfl
    | succ m ih =>
      intro hm
      show (Pg.lineP (m + 1 + 1) LS[m + 1]! (Pg.stP LS (m + 1)).1 (Pg.stP LS (m + 1)).2).1 = _
      rw [ih (by omega), hline m (by omega) _ _ (by rw [List.length_take]; omega)]
      show (fuel, xs.take m ++ [xs[m]!]) = _
      rw [getElem!_pos xs m (by omega), List.take_append_getElem]
  have hall : ∀ k, k < LS.length → Pg.okP LS k = true := by
    intro k hk
    unfold Pg.okP
    cases k with
    | zero =>
      show (Pg.lineP 1 LS[0]! 0 []).2 = true
      rw [hat0, line_fuel (by omega)]
    | succ m =>
      rw [hst m (by omega), hline m (by omega) _ _ (by rw [List.length_take]; omega)]
  have hfind : (List.range LS.length).find? (fun k => !Pg.okP LS k) = none := by
    rw [List.find?_eq_none]
    intro k hk
    simp [hall k (List.mem_range.1 hk)]
  have hend : Pg.stP LS LS.length = (fuel, xs) := by rw [hlen, hst xs.length (Nat.le_refl _), List.take_length]
  simp only [hfind, hend]
  rw [if_neg (by simp [h])]
end Go.Proofs.YthfbkpkogihcbabGreatDoor
end
