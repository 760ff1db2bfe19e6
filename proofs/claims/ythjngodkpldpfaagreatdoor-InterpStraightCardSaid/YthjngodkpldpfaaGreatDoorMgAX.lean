import Derived.Test.YthjngodkpldpfaaGreatDoorMgAV

section
namespace Go.Proofs.YthjngodkpldpfaaGreatDoor
open Go.RowKit Go.Shelf

namespace Im
/-- how many of the first so many instructions have an op -/
def cnt (xs : List In) (op : Int) (k : Nat) : Nat := (xs.take k).countP fun x => x.op == op
/-- the place behind the first of so many that halts or fails -/
def hl (xs : List In) : Nat → Nat
  | 0 => xs.length
  | n + 1 => if xs[n]!.op = 24 ∨ xs[n]!.op = 23 then min (hl xs n) (n + 1) else hl xs n
/-- no jumps -/
def strt (xs : List In) : Prop := ∀ x ∈ xs, x.op ≠ 14 ∧ x.op ≠ 15 ∧ x.op ≠ 16 ∧ x.op ≠ 17 ∧ x.op ≠ 18
end Im
theorem cnt_succ {xs : List In} {op : Int} {k : Nat} (h : k < xs.length) : Im.cnt xs op (k + 1) = Im.cnt xs op k + if xs[k]!.op = op then 1 else 0 := by
  unfold Im.cnt
  rw [List.take_add_one, List.countP_append, List.getElem?_eq_getElem h, getElem!_pos xs k h]
  simp only [Option.toList_some, List.countP_cons, List.countP_nil, Nat.zero_add, beq_iff_eq]
/-- what an instruction that does not jump does: the place, what is counted -/
theorem doM_straight (m : Mc) (x : In) (many : Nat) (hn : x.op ≠ 14 ∧ x.op ≠ 15 ∧ x.op ≠ 16 ∧ x.op ≠ 17 ∧ x.op ≠ 18) (h24 : x.op ≤ 24) :
    ((Im.doM m x many).1 = 0 ∧ x.op ≠ 23 ∧ (Im.doM m x many).2.1.pl = m.pl ∧ (Im.doM m x many).2.1.ch = m.ch + (if x.op = 21 then 1 else 0) ∧ (Im.doM m x many).2.1.pc = m.pc + (if x.op = 22 then 1 else 0) ∧ (Im.doM m x many).2.2.1 = (if x.op = 21 then 1 else if x.op = 22 then 2 else 0) ∧ ((Im.doM m x many).2.1.ov = true ↔ (m.ov = true ∨ x.op = 24))) ∨
    (x.op = 19 ∧ (Im.doM m x many).1 = 2) ∨ (x.op = 20 ∧ (Im.doM m x many).1 = 3) ∨ (x.op = 21 ∧ m.ch = 32 ∧ (Im.doM m x many).1 = 5) ∨ (x.op = 22 ∧ m.pc = 16 ∧ (Im.doM m x many).1 = 6) ∨ (x.op = 23 ∧ (Im.doM m x many).1 = 7) := by
  refine doM_ind (P := fun d => (d.1 = 0 ∧ x.op ≠ 23 ∧ d.2.1.pl = m.pl ∧ d.2.1.ch = m.ch + (if x.op = 21 then 1 else 0) ∧ d.2.1.pc = m.pc + (if x.op = 22 then 1 else 0) ∧ d.2.2.1 = (if x.op = 21 then 1 else if x.op = 22 then 2 else 0) ∧ (d.2.1.ov = true ↔ (m.ov = true ∨ x.op = 24))) ∨ (x.op = 19 ∧ d.1 = 2) ∨ (x.op = 20 ∧ d.1 = 3) ∨ (x.op = 21 ∧ m.ch = 32 ∧ d.1 = 5) ∨ (x.op = 22 ∧ m.pc = 16 ∧ d.1 = 6) ∨ (x.op = 23 ∧ d.1 = 7)) m x many ?_ ?_ ?_ ?_ ?_ ?_ ?_ ?_ ?_ ?_ ?_ ?_ ?_ ?_ ?_ ?_ ?_ ?_ ?_ ?_
  · intro h; left; rw [if_neg (by omega), if_neg (by omega), if_neg (by omega)]; refine ⟨rfl, by omega, rfl, rfl, rfl, (by rw [if_neg (by omega)]), ?_⟩; show m.ov = true ↔ _; exact ⟨.inl, fun k => k.elim id (fun k => by omega)⟩
  · intro h; left; rw [if_neg (by omega), if_neg (by omega), if_neg (by omega)]; refine ⟨rfl, by omega, rfl, rfl, rfl, (by rw [if_neg (by omega)]), ?_⟩; show m.ov = true ↔ _; exact ⟨.inl, fun k => k.elim id (fun k => by omega)⟩
  · intro h; exact absurd h hn.1
  · intro h; exact absurd h hn.2.1
  · intro h; exact absurd h.1 hn.2.2.1
  · intro h; exact absurd h.1 hn.2.2.1
  · intro h; exact absurd h.1 hn.2.2.2.1
  · intro h; exact absurd h.1 hn.2.2.2.1
  · intro h; exact absurd h.1 hn.2.2.2.2
  · intro h; exact absurd h.1 hn.2.2.2.2
  · intro h; exact .inr (.inl ⟨h.1, rfl⟩)
  · intro h; left; have h := h.1; rw [if_neg (by omega), if_neg (by omega), if_neg (by omega)]; refine ⟨rfl, by omega, rfl, rfl, rfl, (by rw [if_neg (by omega)]), ?_⟩; show m.ov = true ↔ _; exact ⟨.inl, fun k => k.elim id (fun k => by omega)⟩
  · intro h; exact .inr (.inr (.inl ⟨h.1, rfl⟩))
  · intro h; left; have h := h.1; rw [if_neg (by omega), if_neg (by omega), if_neg (by omega)]; refine ⟨rfl, by omega, rfl, rfl, rfl, (by rw [if_neg (by omega)]), ?_⟩; show m.ov = true ↔ _; exact ⟨.inl, fun k => k.elim id (fun k => by omega)⟩
  · intro h; exact .inr (.inr (.inr (.inl ⟨h.1, h.2, rfl⟩)))
  · intro h; left; have h := h.1; rw [if_pos h, if_neg (by omega)]; refine ⟨rfl, by omega, rfl, rfl, rfl, (by rw [if_pos h]), ?_⟩; show m.ov = true ↔ _; exact ⟨.inl, fun k => k.elim id (fun k => by omega)⟩
  · intro h; exact .inr (.inr (.inr (.inr (.inl ⟨h.1, h.2, rfl⟩))))
  · intro h; left; have h := h.1; rw [if_neg (by omega), if_pos h]; refine ⟨rfl, by omega, rfl, rfl, rfl, (by rw [if_neg (by omega), if_pos h]), ?_⟩; show m.ov = true ↔ _; exact ⟨.inl, fun k => k.elim id (fun k => by omega)⟩
  · intro h; exact .inr (.inr (.inr (.inr (.inr ⟨h, rfl⟩))))
  · intro h; left; have h24' : x.op = 24 := by omega
    rw [if_neg (by omega), if_neg (by omega), if_neg (by omega)]; refine ⟨rfl, by omega, rfl, rfl, rfl, (by rw [if_neg (by omega)]), ?_⟩; exact ⟨fun _ => .inr h24', fun _ => rfl⟩
theorem hl_gt {xs : List In} {k : Nat} (hk : k < xs.length) (h : ∀ j, j < k → xs[j]!.op ≠ 24 ∧ xs[j]!.op ≠ 23) : ∀ n, k < Im.hl xs n
  | 0 => hk
  | n + 1 => by
    have ih := hl_gt hk h n
    unfold Im.hl
    split
    · rename_i h1
      have : ¬ n < k := fun hn => by have := h n hn; omega
      omega
    · exact ih
theorem hl_at {xs : List In} {k : Nat} (hk : k < xs.length) (h : ∀ j, j < k → xs[j]!.op ≠ 24 ∧ xs[j]!.op ≠ 23) (hh : xs[k]!.op = 24 ∨ xs[k]!.op = 23) : ∀ n, k < n → Im.hl xs n = k + 1
  | 0, hn => by omega
  | n + 1, hn => by
    have hg := hl_gt hk h n
    by_cases e : n = k
    · subst e
      unfold Im.hl
      rw [if_pos hh]
      omega
    · have ih := hl_at hk h hh n (by omega)
      unfold Im.hl
      split <;> omega
theorem hl_none {xs : List In} : ∀ n, (∀ j, j < n → xs[j]!.op ≠ 24 ∧ xs[j]!.op ≠ 23) → Im.hl xs n = xs.length
  | 0, _ => rfl
  | n + 1, h => by
    unfold Im.hl
    have := h n (by omega)
    rw [if_neg (by omega)]
    exact hl_none n (fun j hj => h j (by omega))
/-- a machine of a program without jumps, behind so many instructions -/
structure Srt (xs : List In) (k : Nat) (s : Mc × List (Nat × ByteArray)) : Prop where
  pl : s.1.pl = k
  ch : s.1.ch = Im.cnt xs 21 k
  pc : s.1.pc = Im.cnt xs 22 k
  c : (Im.chk s.2).length = Im.cnt xs 21 k
  p : (Im.pcs s.2).length = Im.cnt xs 22 k
  no : ∀ j, j < k → xs[j]!.op ≠ 24 ∧ xs[j]!.op ≠ 23
theorem chk_add (l : List (Nat × ByteArray)) (a : Nat × ByteArray) : (Im.chk (if a.1 = 0 then l else l ++ [a])).length = (Im.chk l).length + (if a.1 = 1 then 1 else 0) := by
  by_cases h : a.1 = 0
  · rw [if_pos h, if_neg (by omega)]; rfl
  · rw [if_neg h, chk_app]
    split
    · rw [List.length_append]; rfl
    · rfl
theorem pcs_add (l : List (Nat × ByteArray)) (a : Nat × ByteArray) : (Im.pcs (if a.1 = 0 then l else l ++ [a])).length = (Im.pcs l).length + (if a.1 = 0 ∨ a.1 = 1 then 0 else 1) := by
  by_cases h : a.1 = 0
  · rw [if_pos h, if_pos (.inl h)]; rfl
  · rw [if_neg h, pcs_app]
    split
    · rename_i h1; rw [if_pos (.inr h1)]; rfl
    · rename_i h1; rw [if_neg (by omega), List.length_append]; rfl
/-- how one of them ends -/
structure SEnd (xs : List In) (f : Nat) (s : Mc × List (Nat × ByteArray)) : Prop where
  d1 : 1 ≤ s.1.dn
  d2 : s.1.dn ≤ xs.length
  how : ((s.1.en = 0 ∨ s.1.en = 7) ∧ s.1.dn = Im.hl xs xs.length ∧ s.1.dn ≤ f ∧ (Im.chk s.2).length = Im.cnt xs 21 s.1.dn ∧ (Im.pcs s.2).length = Im.cnt xs 22 s.1.dn) ∨
    (s.1.en = 1 ∧ s.1.dn = f ∧ f < Im.hl xs xs.length ∧ (Im.chk s.2).length = Im.cnt xs 21 s.1.dn ∧ (Im.pcs s.2).length = Im.cnt xs 22 s.1.dn) ∨
    ((s.1.en = 2 ∨ s.1.en = 3) ∧ s.1.dn ≤ Im.hl xs xs.length ∧ s.1.dn ≤ f ∧ (xs[s.1.dn - 1]!.op = 19 ∨ xs[s.1.dn - 1]!.op = 20)) ∨
    (s.1.dn ≤ Im.hl xs xs.length ∧ (s.1.en = 5 ∧ (Im.chk s.2).length = 32 ∨ s.1.en = 6 ∧ (Im.pcs s.2).length = 16))
theorem srt_step {xs : List In} {f k : Nat} {s : Mc × List (Nat × ByteArray)} (hs : Im.strt xs) (g : ∀ x ∈ xs, x.Good xs.length) (hk : s.1.Ok xs.length f) (ho : s.1.ov = false) (hd : s.1.dn = k) (h : Srt xs k s) :
    ((Im.nxt xs f s).1.ov = false ∧ Srt xs (k + 1) (Im.nxt xs f s)) ∨ ((Im.nxt xs f s).1.ov = true ∧ SEnd xs f (Im.nxt xs f s)) := by
  have hl := hk.live ho
  rw [h.pl] at hl
  have hkl := hl.1
  rw [nxt_live ho]
  obtain ⟨x, hx⟩ : ∃ x, xs[k]! = x := ⟨_, rfl⟩
  have hxm : x ∈ xs := by rw [← hx, getElem!_pos xs k hkl]; exact List.getElem_mem hkl
  have hD := doM_straight (Im.ready s.1) x xs.length (hs x hxm) (g x hxm).op2
  have hK := doM_keeps (Im.ready s.1) x xs.length
  have e1 : (Im.ready s.1).pl = k + 1 := by show s.1.pl + 1 = _; rw [h.pl]
  have e2 : (Im.ready s.1).ch = Im.cnt xs 21 k := h.ch
  have e3 : (Im.ready s.1).pc = Im.cnt xs 22 k := h.pc
  have e4 : (Im.ready s.1).ov = false := ho
  have e5 : (Im.ready s.1).dn = k + 1 := by show s.1.dn + 1 = _; rw [hd]
  have e6 : (Im.ready s.1).en = 0 := hl.2.2
  have hst : Im.stp xs f s.1 = if (Im.doM (Im.ready s.1) x xs.length).1 = 0 then (Im.settle (Im.doM (Im.ready s.1) x xs.length).2.1 xs.length f, (Im.doM (Im.ready s.1) x xs.length).2.2) else (Im.trapped s.1 (Im.doM (Im.ready s.1) x xs.length).1, 0, ByteArray.empty) := by
    unfold Im.stp; rw [h.pl, hx]
  have c21 := cnt_succ (op := 21) hkl
  have c22 := cnt_succ (op := 22) hkl
  rw [hx] at c21 c22
  rw [e1, e2, e3, e4] at hD
  rw [e5, e6] at hK
  generalize Im.doM (Im.ready s.1) x xs.length = D at *
  have hgt := hl_gt hkl h.no xs.length
  have tr : ∀ t, D.1 = t → t ≠ 0 → (Im.stp xs f s.1).1 = Im.trapped s.1 t ∧ (Im.stp xs f s.1).2 = (0, ByteArray.empty) := fun t e1 e2 => by rw [hst, if_neg (by omega), e1]; exact ⟨rfl, rfl⟩
  rcases hD with ⟨h0, h23, hp, hc, hpc, hkd, hov⟩ | ⟨hop, ht⟩ | ⟨hop, ht⟩ | ⟨hop, hch, ht⟩ | ⟨hop, hpn, ht⟩ | ⟨hop, ht⟩
  · rw [if_pos h0] at hst
    have hc1 := chk_add s.2 D.2.2
    have hp1 := pcs_add s.2 D.2.2
    rw [h.c] at hc1
    rw [h.p] at hp1
    have hcc : (Im.chk (if D.2.2.1 = 0 then s.2 else s.2 ++ [D.2.2])).length = Im.cnt xs 21 (k + 1) := by
      rw [hc1, c21, hkd]
      by_cases q1 : x.op = 21
      · rw [if_pos q1, if_pos rfl, if_pos q1]
      · rw [if_neg q1, if_neg q1]
        split <;> simp
    have hpp : (Im.pcs (if D.2.2.1 = 0 then s.2 else s.2 ++ [D.2.2])).length = Im.cnt xs 22 (k + 1) := by
      rw [hp1, c22, hkd]
      by_cases q1 : x.op = 21
      · rw [if_pos q1, if_pos (.inr rfl), if_neg (by omega)]
      · rw [if_neg q1]
        by_cases q2 : x.op = 22
        · rw [if_pos q2, if_neg (by omega), if_pos q2]
        · rw [if_neg q2, if_pos (.inl rfl), if_neg q2]
    have hdn : (Im.settle D.2.1 xs.length f).dn = k + 1 := by rw [settle_dn]; exact hK.1
    rw [hst]
    dsimp only
    by_cases q24 : x.op = 24
    · have hv : D.2.1.ov = true := hov.2 (.inr q24)
      have es : Im.settle D.2.1 xs.length f = D.2.1 := by unfold Im.settle; rw [if_pos hv]
      rw [es] at hdn ⊢
      refine .inr ⟨hv, ⟨by rw [hdn]; omega, by rw [hdn]; omega, .inl ⟨.inl hK.2.1, ?_, ?_, ?_, ?_⟩⟩⟩
      · rw [hdn, hl_at hkl h.no (by rw [hx]; exact .inl q24) xs.length hkl]
      · rw [hdn]; omega
      · rw [hdn]; exact hcc
      · rw [hdn]; exact hpp
    · have hv : D.2.1.ov = false := by
        cases hq : D.2.1.ov
        · rfl
        · rcases hov.1 hq with k1 | k1
          · cases k1
          · exact absurd k1 q24
      have hno : ∀ j, j < k + 1 → xs[j]!.op ≠ 24 ∧ xs[j]!.op ≠ 23 := fun j hj => by
        by_cases e : j = k
        · subst e; rw [hx]; exact ⟨q24, h23⟩
        · exact h.no j (by omega)
      by_cases q1 : k + 1 = xs.length
      · have es : Im.settle D.2.1 xs.length f = { D.2.1 with ov := true } := by unfold Im.settle; rw [if_neg (by rw [hv]; decide), if_pos (by rw [hp]; exact q1)]
        rw [es] at hdn ⊢
        refine .inr ⟨rfl, ⟨by rw [hdn]; omega, by rw [hdn]; omega, .inl ⟨.inl hK.2.1, ?_, ?_, ?_, ?_⟩⟩⟩
        · rw [hdn, hl_none xs.length (by rw [← q1]; exact hno)]; exact q1
        · rw [hdn]; omega
        · rw [hdn]; exact hcc
        · rw [hdn]; exact hpp
      · by_cases q2 : k + 1 = f
        · have es : Im.settle D.2.1 xs.length f = { D.2.1 with ov := true, en := 1 } := by unfold Im.settle; rw [if_neg (by rw [hv]; decide), if_neg (by rw [hp]; exact q1), if_pos (by rw [hK.1]; exact q2)]
          rw [es] at hdn ⊢
          refine .inr ⟨rfl, ⟨by rw [hdn]; omega, by rw [hdn]; omega, .inr (.inl ⟨rfl, ?_, ?_, ?_, ?_⟩)⟩⟩
          · rw [hdn]; exact q2
          · rw [← q2]; exact hl_gt (by omega) hno xs.length
          · rw [hdn]; exact hcc
          · rw [hdn]; exact hpp
        · have es : Im.settle D.2.1 xs.length f = D.2.1 := by unfold Im.settle; rw [if_neg (by rw [hv]; decide), if_neg (by rw [hp]; exact q1), if_neg (by rw [hK.1]; exact q2)]
          rw [es]
          exact .inl ⟨hv, ⟨hp, by rw [hc, c21], by rw [hpc, c22], hcc, hpp, hno⟩⟩
  all_goals obtain ⟨t1, t2⟩ := tr _ ht (by decide)
  all_goals rw [t1, t2]
  all_goals dsimp only
  all_goals rw [if_pos rfl]
  · exact .inr ⟨rfl, ⟨by show 1 ≤ s.1.dn + 1; omega, by show s.1.dn + 1 ≤ _; omega, .inr (.inr (.inl ⟨.inl rfl, by show s.1.dn + 1 ≤ _; omega, by show s.1.dn + 1 ≤ _; omega, .inl (by show xs[s.1.dn + 1 - 1]!.op = 19; rw [hd, Nat.add_sub_cancel, hx]; exact hop)⟩))⟩⟩
  · exact .inr ⟨rfl, ⟨by show 1 ≤ s.1.dn + 1; omega, by show s.1.dn + 1 ≤ _; omega, .inr (.inr (.inl ⟨.inr rfl, by show s.1.dn + 1 ≤ _; omega, by show s.1.dn + 1 ≤ _; omega, .inr (by show xs[s.1.dn + 1 - 1]!.op = 20; rw [hd, Nat.add_sub_cancel, hx]; exact hop)⟩))⟩⟩
  · exact .inr ⟨rfl, ⟨by show 1 ≤ s.1.dn + 1; omega, by show s.1.dn + 1 ≤ _; omega, .inr (.inr (.inr ⟨by show s.1.dn + 1 ≤ _; omega, .inl ⟨rfl, by show (Im.chk s.2).length = 32; rw [h.c]; exact hch⟩⟩))⟩⟩
  · exact .inr ⟨rfl, ⟨by show 1 ≤ s.1.dn + 1; omega, by show s.1.dn + 1 ≤ _; omega, .inr (.inr (.inr ⟨by show s.1.dn + 1 ≤ _; omega, .inr ⟨rfl, by show (Im.pcs s.2).length = 16; rw [h.p]; exact hpn⟩⟩))⟩⟩
  · refine .inr ⟨rfl, ⟨by show 1 ≤ s.1.dn + 1; omega, by show s.1.dn + 1 ≤ _; omega, .inl ⟨.inr rfl, ?_, by show s.1.dn + 1 ≤ _; omega, ?_, ?_⟩⟩⟩
    · show s.1.dn + 1 = _; rw [hd, hl_at hkl h.no (by rw [hx]; exact .inr hop) xs.length hkl]
    · show (Im.chk s.2).length = Im.cnt xs 21 (s.1.dn + 1); rw [hd, c21, if_neg (by omega)]; exact h.c
    · show (Im.pcs s.2).length = Im.cnt xs 22 (s.1.dn + 1); rw [hd, c22, if_neg (by omega)]; exact h.p
theorem srt_itr {xs : List In} {f : Nat} (hs : Im.strt xs) (hp : Pok f xs) : ∀ k, (Im.itr xs f Im.m0 k).1.ov = false → Srt xs k (Im.itr xs f Im.m0 k)
  | 0, _ => ⟨rfl, by simp [Im.cnt, Im.itr, Im.m0], by simp [Im.cnt, Im.itr, Im.m0], by simp [Im.cnt, Im.itr, Im.chk], by simp [Im.cnt, Im.itr, Im.pcs], fun j hj => by omega⟩
  | k + 1, ho => by
    have h0 := m0_ok xs.length f hp.l1 hp.f1
    by_cases h1 : (Im.itr xs f Im.m0 k).1.ov = true
    · rw [itr_over h1 1, h1] at ho; cases ho
    rw [Bool.not_eq_true] at h1
    rcases srt_step hs hp.good (itr_ok h0 hp.good k) h1 (by rw [itr_dn h0 hp.good k h1]; show 0 + k = k; omega) (srt_itr hs hp k h1) with ⟨_, h2⟩ | ⟨h2, _⟩
    · exact h2
    · rw [show (Im.itr xs f Im.m0 (k + 1)).1.ov = true from h2] at ho; cases ho
/-- the end of a program without jumps -/
theorem straight_end {xs : List In} {f : Nat} (hs : Im.strt xs) (hp : Pok f xs) : SEnd xs f (Im.end_ xs f) := by
  have h0 := m0_ok xs.length f hp.l1 hp.f1
  have ho := itr_ends h0 hp.good f (by show f ≤ 0 + f; omega)
  obtain ⟨k, hk, h1, h2⟩ := itr_last (m := Im.m0) rfl f ho
  rcases srt_step hs hp.good (itr_ok h0 hp.good k) h1 (by rw [itr_dn h0 hp.good k h1]; show 0 + k = k; omega) (srt_itr hs hp k h1) with ⟨h3, _⟩ | ⟨_, h3⟩
  · have : (Im.itr xs f Im.m0 (k + 1)).1.ov = true := by rw [h2]; exact ho
    rw [show (Im.itr xs f Im.m0 (k + 1)).1.ov = false from h3] at this; cases this
  · have e : Im.end_ xs f = Im.nxt xs f (Im.itr xs f Im.m0 k) := h2.symm
    rw [e]; exact h3
theorem end_dn {xs : List In} {f : Nat} (hp : Pok f xs) : 1 ≤ (Im.end_ xs f).1.dn := by
  have h0 := m0_ok xs.length f hp.l1 hp.f1
  have hf := hp.f1
  obtain ⟨j, hj⟩ : ∃ j, f = 1 + j := ⟨f - 1, by omega⟩
  have h1 := itr_dn_le xs f Im.m0 1 j
  have h2 : (Im.itr xs f Im.m0 1).1.dn = 1 := by
    show (Im.nxt xs f (Im.m0, [])).1.dn = 1
    rw [nxt_live (by rfl)]
    exact stp_dn _ _ _
  rw [← hj, h2] at h1
  exact h1
end Go.Proofs.YthjngodkpldpfaaGreatDoor
end

section
namespace Go.Proofs.YthjngodkpldpfaaGreatDoor
open Go.RowKit Go.Shelf

/-- a slice of texts that is only read -/
structure Sl (w : World) (v : Value) (l : List ByteArray) : Prop where
  form : ∃ p cap, v = .slice p l.length cap ∧ l.length ≤ cap ∧ (0 < l.length → ∃ b off, p = some ⟨b, off, none⟩ ∧ b < w.heap.size ∧ ∀ j, j < l.length → w.cell? ⟨b, off + j, none⟩ = some (.string l[j]!))
theorem Sl.below {w w' : World} {v : Value} {l : List ByteArray} (h : Sl w v l) (k : Below w.heap.size w w') : Sl w' v l := by
  obtain ⟨p, cap, hv, hcl, h1⟩ := h
  refine ⟨p, cap, hv, hcl, fun h0 => ?_⟩
  obtain ⟨b, off, hp, hb, hc⟩ := h1 h0
  exact ⟨b, off, hp, Nat.lt_of_lt_of_le hb k.size, fun j hj => (k.cell (p := ⟨b, off + j, none⟩) hb).trans (hc j hj)⟩
theorem strs_at (l : List ByteArray) (j : Nat) (h : j < l.length) : (Im.strs l)[j]? = some (.string l[j]!) := by
  unfold Im.strs; rw [List.getElem?_map, List.getElem?_eq_getElem h, getElem!_pos l j h]; rfl
theorem sl_of {w : World} {base : Nat} {v : Value} {l : List ByteArray} (h : w.ownsRow base 9 1 v l.length (Im.strs l)) : Sl w v l := by
  have hf := h.2
  rcases hf with ⟨h1, h2⟩ | ⟨g, cap, cur, rfl, hg, hh, h3⟩
  · exact ⟨none, 0, by rw [h2]; exact h1, by omega, fun h0 => by omega⟩
  · have hcap : l.length ≤ cap := by have := h3; omega
    refine ⟨some ⟨g, 0, none⟩, cap, rfl, hcap, fun _ => ⟨g, 0, rfl, lt_of_block hh, fun j hj => ?_⟩⟩
    have := h.cells (g := g) rfl j _ (strs_at l j hj)
    rw [addr_add] at this
    exact this
theorem bd_drew (w : World) (n : Nat) : Below w.heap.size w (w.drewN n) := ⟨rfl, rfl, rfl, Nat.le_refl _, fun _ _ => rfl⟩
theorem beq_self (s : ByteArray) : (s.toList == s.toList) = true := by simp
set_option maxHeartbeats 1000000 in
theorem sameTexts_eq {w : World} {v1 v2 : Value} {l : List ByteArray} (h1 : Sl w v1 l) (h2 : Sl w v2 l) (hl : l.length < 1000000) :
    Calls Tryz.prog 26 #[v1, v2] w fun e w' => e = .returned (.bool true) ∧ Below w.heap.size w w' := by
  obtain ⟨p1, cap1, rfl, -, k1⟩ := h1
  obtain ⟨p2, cap2, rfl, -, k2⟩ := h2
  go_enter Tryz.func26, Tryz.ntmps26
  go_wp2_with fail
  go_loopw [5] (fun t wr => ∃ i q : Nat, t = .int .i64 (i : Int) ∧ i ≤ l.length ∧ wr = w.drewN q) (fun t _ => l.length - (intOf t).toNat)
  case atStart => exact ⟨0, 0, rfl, Nat.zero_le _, rfl⟩
  case round =>
    obtain ⟨i, q, rfl, hil, rfl⟩ := hrel
    by_cases hlt : i < l.length
    · obtain ⟨b1, o1, rfl, _, c1⟩ := k1 (by omega)
      obtain ⟨b2, o2, rfl, _, c2⟩ := k2 (by omega)
      have d1 := c1 i hlt
      have d2 := c2 i hlt
      generalize l[i]! = s at *
      have hbe := beq_self s
      have hii : (i : Int) < (l.length : Int) := by omega
      have hn : ¬ l.length ≤ i := by omega
      go_wp2_with fail
      go_quiet (fail)
      go_wp2_with fail
      go_roundw
      case rel => exact ⟨i + 1, _, by go_num, by omega, rfl⟩
      case measure => simp [intOf]; omega
    · obtain rfl : i = l.length := by omega
      have hii : ¬ (l.length : Int) < (l.length : Int) := by omega
      go_wp2_with fail
      go_ret
      exact ⟨rfl, bd_drew w q⟩
/-- an outcome, read -/
structure OutS (w : World) (o : Value) (c b st : Nat) (ch pc : List ByteArray) : Prop where
  form : ∃ cv pv, o = .agg #[.int .i64 (c : Int), .int .u64 (b : Int), cv, pv, .int .i64 (st : Int)] ∧ Sl w cv ch ∧ Sl w pv pc
theorem OutS.below {w w' : World} {o : Value} {c b st : Nat} {ch pc : List ByteArray} (h : OutS w o c b st ch pc) (k : Below w.heap.size w w') : OutS w' o c b st ch pc := by
  obtain ⟨cv, pv, ho, h1, h2⟩ := h
  exact ⟨cv, pv, ho, h1.below k, h2.below k⟩
theorem out_s {w : World} {base : Nat} {o : Value} {I : Mc × List (Nat × ByteArray)} (h : Out w base o I) : OutS w o (Im.resC I.1) (Im.resB I.1) I.1.dn (Im.chk I.2) (Im.pcs I.2) := by
  obtain ⟨cv, pv, ho, h1, h2⟩ := h
  exact ⟨cv, pv, ho, sl_of h1, sl_of h2⟩
set_option maxHeartbeats 1000000 in
theorem sameOutcome_eq {w : World} {o1 o2 : Value} {c b st : Nat} {ch pc : List ByteArray} (h1 : OutS w o1 c b st ch pc) (h2 : OutS w o2 c b st ch pc) (hl1 : ch.length < 1000000) (hl2 : pc.length < 1000000) :
    Calls Tryz.prog 19 #[o1, o2] w fun e w' => e = .returned (.bool true) ∧ Below w.heap.size w w' := by
  obtain ⟨cv1, pv1, rfl, a1, a2⟩ := h1
  obtain ⟨cv2, pv2, rfl, b1, b2⟩ := h2
  have HS1 := hide (fun w1 (k1 : Sl w1 cv1 ch) (k2 : Sl w1 cv2 ch) => sameTexts_eq k1 k2 hl1)
  have HS2 := hide (fun w1 (k1 : Sl w1 pv1 pc) (k2 : Sl w1 pv2 pc) => sameTexts_eq k1 k2 hl2)
  have HA1 := hide a1
  have HA2 := hide a2
  have HB1 := hide b1
  have HB2 := hide b2
  obtain ⟨p1, c1, rfl, -, -⟩ := a1
  obtain ⟨p2, c2, rfl, -, -⟩ := a2
  obtain ⟨p3, c3, rfl, -, -⟩ := b1
  obtain ⟨p4, c4, rfl, -, -⟩ := b2
  go_enter Tryz.func19, Tryz.ntmps19
  go_wp2_with fail
  have hW : Below w.heap.size w ((w.alloc (.cells #[.int .i64 (c : Int), .int .u64 (b : Int), .slice p1 ch.length c1, .slice p2 pc.length c2, .int .i64 (st : Int)] 48)).alloc (.cells #[.int .i64 (c : Int), .int .u64 (b : Int), .slice p3 ch.length c3, .slice p4 pc.length c4, .int .i64 (st : Int)] 48)) := (below_one w _).trans ((below_one _ _).mono (by simp))
  refine (HS1.out _ (HA1.out.below hW) (HB1.out.below hW)).mono ?_
  rintro e w3 ⟨rfl, hb3⟩
  have HB3 : Hid (Below w.heap.size w w3) := hW.trans (hb3.mono (by simp; omega))
  have x1 : w3.heap[w.heap.size]? = some (.cells #[.int .i64 (c : Int), .int .u64 (b : Int), .slice p1 ch.length c1, .slice p2 pc.length c2, .int .i64 (st : Int)] 48 (0, 0)) := (hb3.block w.heap.size (by simp; omega)).trans ((heap_alloc_old _ _ (by simp)).trans (heap_alloc_new w _))
  have x2 : w3.heap[w.heap.size + 1]? = some (.cells #[.int .i64 (c : Int), .int .u64 (b : Int), .slice p3 ch.length c3, .slice p4 pc.length c4, .int .i64 (st : Int)] 48 (0, 0)) := (hb3.block (w.heap.size + 1) (by simp)).trans (by have q := heap_alloc_new (w.alloc (.cells #[.int .i64 (c : Int), .int .u64 (b : Int), .slice p1 ch.length c1, .slice p2 pc.length c2, .int .i64 (st : Int)] 48)) (.cells #[.int .i64 (c : Int), .int .u64 (b : Int), .slice p3 ch.length c3, .slice p4 pc.length c4, .int .i64 (st : Int)] 48); rw [World.size_alloc] at q; exact q)
  have y1 : w3.cell? ⟨w.heap.size, 3, none⟩ = some (.slice p2 pc.length c2) := (five_of x1).2.2.2.1
  have y2 : w3.cell? ⟨w.heap.size + 1, 3, none⟩ = some (.slice p4 pc.length c4) := (five_of x2).2.2.2.1
  clear x1 x2 hb3 hW
  go_wp2_with fail
  refine (HS2.out _ (HA2.out.below HB3.out) (HB2.out.below HB3.out)).mono ?_
  rintro e w4 ⟨rfl, hb4⟩
  go_wp2_with fail
  go_ret
  exact ⟨rfl, HB3.out.trans (hb4.mono HB3.out.size)⟩
set_option maxHeartbeats 1000000 in
theorem begins_eq {w : World} {v1 v2 : Value} {a t : List ByteArray} (h1 : Sl w v1 a) (h2 : Sl w v2 (a ++ t)) (hl : (a ++ t).length < 1000000) :
    Calls Tryz.prog 27 #[v1, v2] w fun e w' => e = .returned (.bool true) ∧ Below w.heap.size w w' := by
  have HA := hide h1
  have HB := hide h2
  obtain ⟨p1, c1, rfl, -, -⟩ := h1
  obtain ⟨p2, c2, rfl, hcap, -⟩ := h2
  rw [List.length_append] at hcap hl HB ⊢
  have haz : Option.map (fun x : Addr => x.add 0) p2 = p2 := by cases p2 <;> simp [Addr.add]
  have hle : (a.length : Int) ≤ (a.length : Int) + (t.length : Int) := by omega
  have hci : (a.length : Int) ≤ (c2 : Int) := by omega
  have HV : Hid (Sl w (.slice p2 a.length c2) a) := by
    obtain ⟨p, cap, hv, hc, h1⟩ := HB.out
    rw [← List.length_append] at hv
    injection hv with e1 e2 e3
    subst e1 e3
    refine ⟨p2, c2, rfl, by omega, fun h0 => ?_⟩
    obtain ⟨b, off, hp, hb, hcell⟩ := h1 (by rw [List.length_append]; omega)
    refine ⟨b, off, hp, hb, fun j hj => ?_⟩
    have := hcell j (by rw [List.length_append]; omega)
    rw [getElem!_pos (a ++ t) j (by rw [List.length_append]; omega), List.getElem_append_left hj] at this
    rw [getElem!_pos a j hj]
    exact this
  have HS := hide (sameTexts_eq HA.out HV.out (by omega))
  go_enter Tryz.func27, Tryz.ntmps27
  go_wp2_with fail
  refine HS.out.mono ?_
  rintro e w4 ⟨rfl, hb4⟩
  go_wp2_with fail
  go_ret
  exact ⟨rfl, hb4⟩
set_option maxRecDepth 20000 in
set_option maxHeartbeats 2000000 in
theorem whole_no {w : World} {v : Value} {fuel : Int} {xs : List In} (hx : ∀ x ∈ xs, x.Fits) (h : Cd w v xs) (hc : (Pg.checkE fuel xs).1 ≠ 0) :
    Calls Tryz.prog 17 #[.agg #[.int .i64 fuel, v]] w fun e w' => e = .returned (.tuple #[.agg #[.int .i64 0, .int .u64 0, .slice none 0 0, .slice none 0 0, .int .i64 0], .int .i64 (Pg.checkE fuel xs).1]) ∧ Below w.heap.size w w' := by
  have HN := hide (fun w1 (h1 : Cd w1 v xs) => new_no hx h1 hc)
  have HCd := hide h
  obtain ⟨p, cap, rfl, -⟩ := h
  generalize Pg.checkE fuel xs = E at *
  have hb : (E.1 != 0) = true := by rw [bne_iff_ne]; exact hc
  clear hc hx
  go_enter Tryz.func17, Tryz.ntmps17
  go_wp2_with fail
  have hW : Below w.heap.size w ((w.alloc (.cells #[.int .i64 fuel, .slice p xs.length cap] 24)).alloc (.cells #[.int .i64 0, .int .u64 0, .slice none 0 0, .slice none 0 0, .int .i64 0] 48)) := (below_one w _).trans ((below_one _ _).mono (by simp))
  refine (HN.out _ (HCd.out.below hW (Nat.le_refl _))).mono ?_
  rintro e w1 ⟨rfl, hb1⟩
  have hr : w1.heap[w.heap.size + 1]? = some (.cells #[.int .i64 0, .int .u64 0, .slice none 0 0, .slice none 0 0, .int .i64 0] 48 (0, 0)) := (hb1.block (w.heap.size + 1) (by simp)).trans (by have q := heap_alloc_new (w.alloc (.cells #[.int .i64 fuel, .slice p xs.length cap] 24)) (.cells #[.int .i64 0, .int .u64 0, .slice none 0 0, .slice none 0 0, .int .i64 0] 48); rw [World.size_alloc] at q; exact q)
  have HB1 : Hid (Below w.heap.size w w1) := hW.trans (hb1.mono (by simp; omega))
  have HR := hide hr
  obtain ⟨r0, r1, r2, r3, r4, rz⟩ := five_of hr
  clear hb1 hr
  go_wp2_with fail
  have q1 := block_set (block_set (block_set (block_set (block_set HR.out 0 (.int .i64 0)) 1 (.int .u64 0)) 2 (.slice none 0 0)) 3 (.slice none 0 0)) 4 (.int .i64 0)
  have gC := grown_trans (grown_set w1 (w.heap.size + 1) 0 (.int .i64 0)) (grown_trans (grown_set _ (w.heap.size + 1) 1 (.int .u64 0)) (grown_trans (grown_set _ (w.heap.size + 1) 2 (.slice none 0 0)) (grown_trans (grown_set _ (w.heap.size + 1) 3 (.slice none 0 0)) (grown_set _ (w.heap.size + 1) 4 (.int .i64 0)))))
  exact bodyPost_ret (res5 rfl _ _ (w.heap.size + 1) _ (.int .i64 E.1) rfl rfl q1 rfl) rfl ⟨rfl, HB1.out.trans (below_of_grown (grown_none w1 0 (some (w.heap.size + 1))) gC (by omega) (by omega) HB1.out.size)⟩
end Go.Proofs.YthjngodkpldpfaaGreatDoor
end

section
namespace Go.Proofs.YthjngodkpldpfaaGreatDoor
open Go.RowKit Go.Shelf

namespace Im
def xsE : List In := [⟨1, 0, 0, 0, 0, 4609434218613702656⟩, ⟨21, 0, 0, 0, 0, 0⟩, ⟨14, 0, 0, 0, 3, 0⟩]
def t31 : ByteArray := ⟨#[51, 112, 45, 49]⟩
end Im
theorem t31_is : (Im.t31.toList == [51, 112, 45, 49]) = true := by kernel_rfl
theorem xsE_check : Pg.checkE 9 Im.xsE = (0, 0) := by decide
theorem xsE_fits : ∀ x ∈ Im.xsE, x.Fits := by
  intro x hx
  simp only [Im.xsE, List.mem_cons, List.not_mem_nil, or_false] at hx
  rcases hx with rfl | rfl | rfl <;> exact ⟨by decide, by decide, by decide, by decide, by decide, by decide⟩
theorem xsE_pok : Pok 9 Im.xsE := by
  obtain ⟨n, hn, hp⟩ := pok_of (fuel := 9) xsE_fits (by rw [xsE_check])
  obtain rfl : n = 9 := by omega
  exact hp
theorem textE : textB 4609434218613702656 = Im.t31 := by
  have h1 : oN 4609434218613702656 = 3 := by decide
  have h2 : pN 4609434218613702656 = -1 := by decide
  have h3 : clsN 4609434218613702656 = 4 := by decide
  unfold textB
  rw [show Gn.canonW 4609434218613702656 = 4609434218613702656 by decide, if_pos (by decide)]
  unfold amtB
  rw [h3, if_neg (by decide), if_neg (by decide), if_neg (by decide), h1, h2]
  rw [Lib.decDigits_one (by decide), show Lib.itoa (-1) = [45, 49] from by unfold Lib.itoa; rw [if_pos (by decide)]; show 45 :: Lib.decDigits 1 = _; rw [Lib.decDigits_one (by decide)]; rfl]
  rfl
theorem endE : Im.end_ Im.xsE 9 = (⟨3, [4609434218613702656, 0, 0, 0, 0, 0, 0, 0], [0, 0, 0, 0, 0, 0, 0, 0], 0, [0, 0, 0, 0, 0, 0, 0, 0], 0, 3, 1, 0, true, 0⟩, [(1, textB 4609434218613702656)]) := by kernel_rfl
theorem itrE : Im.itr Im.xsE 9 Im.m0 2 = (⟨2, [4609434218613702656, 0, 0, 0, 0, 0, 0, 0], [0, 0, 0, 0, 0, 0, 0, 0], 0, [0, 0, 0, 0, 0, 0, 0, 0], 0, 2, 1, 0, false, 0⟩, [(1, textB 4609434218613702656)]) := by kernel_rfl
theorem stpE : Im.stp Im.xsE 9 ⟨2, [4609434218613702656, 0, 0, 0, 0, 0, 0, 0], [0, 0, 0, 0, 0, 0, 0, 0], 0, [0, 0, 0, 0, 0, 0, 0, 0], 0, 2, 1, 0, false, 0⟩ = (⟨3, [4609434218613702656, 0, 0, 0, 0, 0, 0, 0], [0, 0, 0, 0, 0, 0, 0, 0], 0, [0, 0, 0, 0, 0, 0, 0, 0], 0, 3, 1, 0, true, 0⟩, 0, ByteArray.empty) := by kernel_rfl
theorem cell_of_block {w : World} {Y T i : Nat} {cs : Array Value} {u : Value} (h : w.heap[Y]? = some (.cells cs T (0, 0))) (hi : cs[i]? = some u) : w.cell? ⟨Y, i, none⟩ = some u := by simp [World.cell?, h, hi]
set_option maxHeartbeats 1000000 in
theorem example_any (w : World) : Calls Tryz.prog 33 #[] w fun e w' => ∃ v, e = .returned (.agg #[.int .i64 9, v]) ∧ Cd w' v Im.xsE ∧ Below w.heap.size w w' := by
  go_enter Tryz.func33, Tryz.ntmps33
  go_wp2_with fail
  have b0 := (heap_alloc_old (w.alloc (.cells #[.int .i64 9, .slice (some ⟨w.heap.size + 1, 0, none⟩) 3 3] 24)) (.cells (flatI Im.xsE).toArray 66) (by simp : w.heap.size < _)).trans (heap_alloc_new w _)
  have b1 : ((w.alloc (.cells #[.int .i64 9, .slice (some ⟨w.heap.size + 1, 0, none⟩) 3 3] 24)).alloc (.cells (flatI Im.xsE).toArray 66)).heap[w.heap.size + 1]? = some (.cells (flatI Im.xsE).toArray 66 (0, 0)) := by have q := heap_alloc_new (w.alloc (.cells #[.int .i64 9, .slice (some ⟨w.heap.size + 1, 0, none⟩) 3 3] 24)) (.cells (flatI Im.xsE).toArray 66); rw [World.size_alloc] at q; exact q
  refine bodyPost_ret (results_cell_row (p := 0) (ty := 24) rfl _ _ w.heap.size 24 _ (0, 0) _ rfl b0 Tryz.underlying24 rfl (by kernel_rfl)) rfl ⟨_, rfl, ⟨some ⟨w.heap.size + 1, 0, none⟩, 3, rfl, fun _ => ⟨w.heap.size + 1, 0, rfl, lt_of_block b1, fun j hj i u hi => ?_⟩⟩, (below_one w _).trans ((below_one _ _).mono (by simp))⟩
  have hi6 : i < 6 := by
    rcases Nat.lt_or_ge i 6 with h' | h'
    · exact h'
    · rw [List.getElem?_eq_none (by simpa [In.cs] using h')] at hi; cases hi
  have := flatI_of hj hi6 hi
  rw [Nat.zero_add]
  exact cell_of_block b1 (by rw [List.getElem?_toArray]; exact this)
theorem wholeE (w : World) (v : Value) (h : Cd w v Im.xsE) (hT : Tbs w) : Calls Tryz.prog 17 #[.agg #[.int .i64 9, v]] w fun e w' => ∃ g cap ad cap2, e = .returned (.tuple #[.agg #[.int .i64 0, .int .u64 4609434218613702656, .slice (some ⟨g, 0, none⟩) 1 cap, .slice ad 0 cap2, .int .i64 3], .int .i64 0]) ∧ w'.cell? ⟨g, 0, none⟩ = some (.string Im.t31) ∧ Below w.heap.size w w' := by
  refine (whole_ok xsE_fits h xsE_check xsE_pok hT).mono ?_
  rintro e w' ⟨o, rfl, ⟨cv, pv, rfl, hcv, hpv⟩, hb⟩
  rw [endE] at hcv hpv ⊢
  rw [textE] at hcv hpv
  obtain ⟨g, cap, rfl⟩ := own_some (n := 1) hcv (by decide)
  obtain ⟨ad, cap2, rfl⟩ := rown_slice (n := 0) hpv
  exact ⟨g, cap, ad, cap2, rfl, hcv.cells (g := g) rfl 0 (.string Im.t31) rfl, hb⟩
theorem runE {w : World} {B : Nat} {v : Value} (h : Mb w B Im.m0 v 9) (hC : Cdn w v Im.xsE B) (hE : Env w B) : Calls Tryz.prog 22 #[.pointer (some ⟨B, 0, none⟩), .int .i64 2] w fun e w' => ∃ g cap, e = .returned (.slice (some ⟨g, 0, none⟩) 1 cap) ∧ Mb w' B ⟨2, [4609434218613702656, 0, 0, 0, 0, 0, 0, 0], [0, 0, 0, 0, 0, 0, 0, 0], 0, [0, 0, 0, 0, 0, 0, 0, 0], 0, 2, 1, 0, false, 0⟩ v 9 ∧ w'.cell? ⟨g, 0, none⟩ = some (.int .i64 1) ∧ w'.cell? ⟨g, 1, none⟩ = some (.string Im.t31) ∧ w.heap.size ≤ g ∧ g < w'.heap.size ∧ w.grownBy w' (some B) := by
  refine (run_any (xs := Im.xsE) h (m0_ok 3 9 (by decide) (by decide)) xsE_pok.good hC hE (by decide) (by decide) 2 (by decide)).mono ?_
  rintro e w' ⟨u, rfl, hm, ho, hg⟩
  rw [show Int.toNat 2 = 2 from rfl, itrE] at hm ho
  rw [textE] at ho
  obtain ⟨g, cap, rfl⟩ := own_some (n := 1) ho (by decide)
  exact ⟨g, cap, rfl, hm, ho.cells (g := g) rfl 0 _ rfl, ho.cells (g := g) rfl 1 (.string Im.t31) rfl, (ho.lt g rfl).1, (ho.lt g rfl).2, hg⟩
theorem stepE {w : World} {B : Nat} {v : Value} (h : Mb w B ⟨2, [4609434218613702656, 0, 0, 0, 0, 0, 0, 0], [0, 0, 0, 0, 0, 0, 0, 0], 0, [0, 0, 0, 0, 0, 0, 0, 0], 0, 2, 1, 0, false, 0⟩ v 9) (hC : Cdn w v Im.xsE B) (hE : Env w B) :
    Calls Tryz.prog 29 #[.pointer (some ⟨B, 0, none⟩)] w fun e w' => e = .returned (.tuple #[.agg #[.int .i64 0, .string ⟨#[]⟩], .int .i64 0]) ∧ Mb w' B ⟨3, [4609434218613702656, 0, 0, 0, 0, 0, 0, 0], [0, 0, 0, 0, 0, 0, 0, 0], 0, [0, 0, 0, 0, 0, 0, 0, 0], 0, 3, 1, 0, true, 0⟩ v 9 ∧ w.grownBy w' (some B) := by
  have hk := itr_ok (xs := Im.xsE) (m0_ok 3 9 (by decide) (by decide)) xsE_pok.good (fuel := 9) 2
  rw [itrE] at hk
  refine (step_live (xs := Im.xsE) h rfl hk xsE_pok.good hC hE (by decide) (by decide)).mono ?_
  rintro e w' ⟨rfl, hm, hg⟩
  rw [stpE] at hm ⊢
  exact ⟨rfl, hm, hg⟩
abbrev mE : Mc := ⟨3, [4609434218613702656, 0, 0, 0, 0, 0, 0, 0], [0, 0, 0, 0, 0, 0, 0, 0], 0, [0, 0, 0, 0, 0, 0, 0, 0], 0, 3, 1, 0, true, 0⟩
theorem overE {w : World} {B : Nat} {v : Value} (h : Mb w B mE v 9) : Calls Tryz.prog 20 #[.pointer (some ⟨B, 0, none⟩)] w fun e w' => e = .returned (.bool true) ∧ w' = w := over_any h
theorem doneE {w : World} {B : Nat} {v : Value} (h : Mb w B mE v 9) : Calls Tryz.prog 21 #[.pointer (some ⟨B, 0, none⟩)] w fun e w' => e = .returned (.int .i64 3) ∧ w' = w := done_any h
theorem placeE {w : World} {B : Nat} {v : Value} (h : Mb w B mE v 9) : Calls Tryz.prog 28 #[.pointer (some ⟨B, 0, none⟩)] w fun e w' => e = .returned (.int .i64 3) ∧ w' = w := place_any h
theorem regE {w : World} {B : Nat} {v : Value} (h : Mb w B mE v 9) : Calls Tryz.prog 24 #[.pointer (some ⟨B, 0, none⟩), .int .i64 0] w fun e w' => e = .returned (.int .u64 4609434218613702656) ∧ w' = w := reg_any h 0 (by decide)
theorem resultE {w : World} {B : Nat} {v : Value} (h : Mb w B mE v 9) : Calls Tryz.prog 25 #[.pointer (some ⟨B, 0, none⟩)] w fun e w' => e = .returned (.agg #[.int .i64 0, .int .u64 4609434218613702656]) ∧ Below w.heap.size w w' := result_any h
end Go.Proofs.YthjngodkpldpfaaGreatDoor
end

section
namespace Go.Proofs.YthjngodkpldpfaaGreatDoor
open Go.RowKit Go.Shelf

set_option maxRecDepth 20000 in
set_option maxHeartbeats 8000000 in
theorem iawake_true (w : World) (hT : Tbs w) : Calls Tryz.prog 11 #[] w fun e w' => e = .returned (.bool true) ∧ Below w.heap.size w w' := by
  have HX := hide example_any
  have HT := hide hT
  clear hT
  go_enter Tryz.func11, Tryz.ntmps11
  go_wp2_with fail
  refine (HX.out _).mono ?_
  rintro e w1 ⟨v1, rfl, hc1, hb1⟩
  go_wp2_with fail
  refine (wholeE w1 v1 hc1 (HT.out.below hb1)).mono ?_
  rintro e w2 ⟨gc, capc, adp, capp, rfl, kc, hb2⟩
  have HB2 : Hid (Below w.heap.size w w2) := hb1.trans (hb2.mono hb1.size)
  have hgc := World.block_lt_of_cell? _ _ kc
  clear hb1 hb2 hc1
  go_wp2_with fail
  refine (HX.out _).mono ?_
  rintro e w3 ⟨v3, rfl, hc3, hb3⟩
  go_wp2_with fail
  refine (new_ok xsE_fits hc3 xsE_check (by decide) (by decide)).mono ?_
  rintro e w4 ⟨B, v4, rfl, hmb, hcd, hB, hb4⟩
  have hw3 := hb3.size
  rw [World.size_alloc] at hw3
  have HO4 : Hid (w4.heap[w2.heap.size]? = some (.cells #[.int .i64 0, .int .u64 4609434218613702656, .slice (some ⟨gc, 0, none⟩) 1 capc, .slice adp 0 capp, .int .i64 3] 48 (0, 0))) := (hb4.block w2.heap.size (by omega)).trans ((hb3.block w2.heap.size (by simp)).trans (heap_alloc_new w2 _))
  have kc4 : w4.cell? ⟨gc, 0, none⟩ = some (.string Im.t31) := (hb4.cell (p := ⟨gc, 0, none⟩) (show gc < w3.heap.size by have : gc < w2.heap.size := hgc; omega)).trans ((hb3.cell (p := ⟨gc, 0, none⟩) (show gc < _ by simp; have : gc < w2.heap.size := hgc; omega)).trans (Lib.cell?_alloc_some _ kc))
  have HB4 : Hid (Below w.heap.size w w4) := HB2.out.trans (((below_one w2 (.cells #[.int .i64 0, .int .u64 4609434218613702656, .slice (some ⟨gc, 0, none⟩) 1 capc, .slice adp 0 capp, .int .i64 3] 48)).trans ((hb3.mono (by simp)).trans (hb4.mono (by omega)))).mono HB2.out.size)
  have HE4 := hide (HT.out.env HB4.out (show w.heap.size ≤ B by have := HB2.out.size; omega))
  have hBO : w2.heap.size < B := by omega
  have HM4 := hide hmb
  have HC4 := hide hcd
  obtain ⟨o0, o1, o2, o3, o4, oz⟩ := five_of HO4.out
  clear hb3 hb4 hmb hcd hc3 kc
  have h31 := t31_is
  have hB4 := HM4.out.lt
  go_wp2_with fail
  refine (runE HM4.out HC4.out HE4.out).mono ?_
  rintro e w5 ⟨gl, capl, rfl, hm5, l0, l1, hgl, hgl5, hg5⟩
  have HO5 := hide ((hg5.block _ (lt_of_block HO4.out) (by simp; omega)).trans HO4.out)
  have HC5 := hide (HC4.out.grown hg5)
  have HE5 := hide (HE4.out.grown hg5)
  have HM5 := hide hm5
  have HG5 := hide hg5
  clear o0 o1 o2 o3 o4 oz hm5 hg5 kc4
  go_wp2_with fail
  refine (stepE HM5.out HC5.out HE5.out).mono ?_
  rintro e w6 ⟨rfl, hm6, hg6⟩
  have HO6 := hide ((hg6.block _ (lt_of_block HO5.out) (by simp; omega)).trans HO5.out)
  have l06 := hg6.cell l0 (by simp; omega)
  have l16 := hg6.cell l1 (by simp; omega)
  have HM6 := hide hm6
  have HG6 := hide (grown_trans HG5.out hg6)
  have hs6 := HG6.out.size
  clear l0 l1 hm6 hg6
  go_wp2_with fail
  refine (step_over (HM6.out.grown (grown_one w6 _ none) (by simp)) rfl).mono ?_
  rintro e w7 ⟨rfl, hb7⟩
  have hb76 : Below w6.heap.size w6 w7 := (below_one w6 _).trans (hb7.mono (by simp))
  have HM7 := hide (HM6.out.below hb76 HM6.out.lt)
  have HO7 := hide ((hb76.block _ (lt_of_block HO6.out)).trans HO6.out)
  have l0 := (hb76.cell (p := ⟨gl, 0, none⟩) (World.block_lt_of_cell? _ _ l06)).trans l06
  have l1 := (hb76.cell (p := ⟨gl, 1, none⟩) (World.block_lt_of_cell? _ _ l16)).trans l16
  have ha7 := (hb7.block w6.heap.size (by simp)).trans (heap_alloc_new w6 _)
  have a0 : w7.cell? ⟨w6.heap.size, 0, none⟩ = some (.int .i64 0) := cell_of_block ha7 rfl
  have HB7 : Hid (Below w.heap.size w w7) := HB4.out.trans (below_of_grown HG6.out (grown_below hb76 (some B)) (by have := HB2.out.size; omega) (by have := HB2.out.size; omega) HB4.out.size)
  clear hb7 hb76 l06 l16 ha7
  obtain ⟨o0, o1, -, -, -, -⟩ := five_of HO7.out
  go_wp2_with fail
  have HM8 := hide (HM7.out.grown (grown_one w7 (.cells #[.int .i64 0, .string ⟨#[]⟩] 58) none) (by simp))
  have HB8 := hide (HB7.out.trans ((below_one w7 (.cells #[.int .i64 0, .string ⟨#[]⟩] 58)).mono HB7.out.size))
  replace l0 := Lib.cell?_alloc_some (.cells #[.int .i64 0, .string ⟨#[]⟩] 58) l0
  replace l1 := Lib.cell?_alloc_some (.cells #[.int .i64 0, .string ⟨#[]⟩] 58) l1
  replace a0 := Lib.cell?_alloc_some (.cells #[.int .i64 0, .string ⟨#[]⟩] 58) a0
  replace o0 := Lib.cell?_alloc_some (.cells #[.int .i64 0, .string ⟨#[]⟩] 58) o0
  replace o1 := Lib.cell?_alloc_some (.cells #[.int .i64 0, .string ⟨#[]⟩] 58) o1
  generalize w7.alloc (.cells #[.int .i64 0, .string ⟨#[]⟩] 58) = w7b at *
  have HMd := hide HM8.out.drew
  have HOv := hide (overE HMd.out)
  have HDo := hide (doneE HMd.out)
  have HPl := hide (placeE HMd.out)
  have HRg := hide (regE HMd.out)
  have HRe := hide (resultE HMd.out)
  simp only [List.append_eq, List.cons_append, List.nil_append]
  clear HX HT HO4 HO5 HO6 HO7 HC4 HC5 HE4 HE5 HM4 HM5 HM6 HM7 HG5 HG6 HB2 HB4 HB7
  go_region_held3 (fun w' => w'.cell? ⟨gl, 0, none⟩ = some (.int .i64 1) ∧ w'.cell? ⟨gl, 1, none⟩ = some (.string Im.t31) ∧ w'.cell? ⟨w6.heap.size, 0, none⟩ = some (.int .i64 0) ∧ w'.cell? ⟨w2.heap.size, 0, none⟩ = some (.int .i64 0) ∧ w'.cell? ⟨w2.heap.size, 1, none⟩ = some (.int .u64 4609434218613702656)) (first | exact ⟨l0, l1, a0, o0, o1⟩ | exact ⟨m0, m1, m2, m3, m4⟩) (first
    | (go_at_call 20; refine HOv.out.mono ?_; rintro e _ ⟨rfl, rfl⟩)
    | (go_at_call 21; refine HDo.out.mono ?_; rintro e _ ⟨rfl, rfl⟩)
    | (go_at_call 28; refine HPl.out.mono ?_; rintro e _ ⟨rfl, rfl⟩)
    | (go_at_call 24; refine HRg.out.mono ?_; rintro e _ ⟨rfl, rfl⟩)
    | (go_at_call 25; refine HRe.out.mono ?_; rintro e w8 ⟨rfl, hb8'⟩; have hb8 := below_undrew hb8'; have m0 := (hb8.cell (p := ⟨gl, 0, none⟩) (World.block_lt_of_cell? _ _ l0)).trans l0; have m1 := (hb8.cell (p := ⟨gl, 1, none⟩) (World.block_lt_of_cell? _ _ l1)).trans l1; have m2 := (hb8.cell (p := ⟨w6.heap.size, 0, none⟩) (World.block_lt_of_cell? _ _ a0)).trans a0; have m3 := (hb8.cell (p := ⟨w2.heap.size, 0, none⟩) (World.block_lt_of_cell? _ _ o0)).trans o0; have m4 := (hb8.cell (p := ⟨w2.heap.size, 1, none⟩) (World.block_lt_of_cell? _ _ o1)).trans o1))
  go_wp2_with fail
  go_ret
  exact ⟨rfl, HB8.out.trans (hb8.mono HB8.out.size)⟩
end Go.Proofs.YthjngodkpldpfaaGreatDoor
end
