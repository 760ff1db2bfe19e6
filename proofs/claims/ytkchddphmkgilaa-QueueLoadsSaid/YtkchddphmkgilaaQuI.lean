import Derived.Test.YtkchddphmkgilaaQuG
namespace Go.Proofs.Ytkchddphmkgilaa
open Go.RowKit

/-- a block of two sums -/
def Bs (w : World) (X : Nat) (s : Int × Int) : Prop := w.heap[X]? = some (.cells #[.int .i64 s.1, .int .i64 s.2] 83 (0, 0))
abbrev sval (s : Int × Int) : Value := .agg #[.int .i64 s.1, .int .i64 s.2]
abbrev sobj (s : Int × Int) : Obj := .cells #[.int .i64 s.1, .int .i64 s.2] 83 (0, 0)
theorem Bs.c0 {w : World} {X : Nat} {s : Int × Int} (h : Bs w X s) : w.cell? ⟨X, 0, none⟩ = some (.int .i64 s.1) := by unfold Bs at h; simp [World.cell?, h]
theorem Bs.c1 {w : World} {X : Nat} {s : Int × Int} (h : Bs w X s) : w.cell? ⟨X, 1, none⟩ = some (.int .i64 s.2) := by unfold Bs at h; simp [World.cell?, h]
theorem Bs.z {w : World} {X : Nat} {s : Int × Int} (h : Bs w X s) (k : Nat) : w.frozen? ⟨X, k, none⟩ = false := by unfold Bs at h; simp [World.frozen?, h]
theorem Bs.lt {w : World} {X : Nat} {s : Int × Int} (h : Bs w X s) : X < w.heap.size := lt_of_block h
theorem Bs.keep {w w' : World} {X : Nat} {s : Int × Int} (h : Bs w X s) (e : w'.heap[X]? = w.heap[X]?) : Bs w' X s := e.trans h
abbrev set2 (w : World) (X : Nat) (s : Int × Int) : World := (w.setCell ⟨X, 0, none⟩ (.int .i64 s.1)).setCell ⟨X, 1, none⟩ (.int .i64 s.2)
theorem Bs.put {w : World} {X : Nat} {q : Int × Int} (h : Bs w X q) (s : Int × Int) : Bs (set2 w X s) X s := by
  have e0 := heap_set_self w X 0 (.int .i64 s.1) _ _ _ h
  have e1 := heap_set_self _ X 1 (.int .i64 s.2) _ _ _ e0
  simp only [List.setIfInBounds_toArray, List.set_cons_zero, List.set_cons_succ] at e1
  exact e1
theorem set2_other (w : World) (X : Nat) (s : Int × Int) (k : Nat) (hk : k ≠ X) : (set2 w X s).heap[k]? = w.heap[k]? :=
  (Below.heap_setCell _ ⟨X, 1, none⟩ _ k hk).trans (Below.heap_setCell _ ⟨X, 0, none⟩ _ k hk)

set_option maxHeartbeats 4000000 in
set_option maxRecDepth 8000 in
/-- askAll at sums -/
theorem askS_any {w : World} {ad : Option Addr} {ab ao cap : Nat} {L : List Rr} (h : Rs w ad ab ao L) (hl : L.length ≤ 4398046511104) (C : FuncId) (caps : Array Value) (f : Int × Int → Rr → Int × Int) (P : Nat → Int × Int → Prop) (a0 : Int × Int) (h0 : P 0 a0)
    (hrun : ∀ (a r : Value) (w1 : World), (callFunc C (#[a, r] ++ caps)).run Try.prog w1 = .ok (.enter C (#[a, r] ++ caps)) w1)
    (hc : ∀ (w1 : World) (i : Nat) (hi : i < L.length) (a : Int × Int), Below w.heap.size w w1 → P i a → P (i + 1) (f a L[i]) ∧ Calls Try.prog C (#[sval a, (L[i]).val] ++ caps) w1 fun e w' => e = .returned (sval (f a L[i])) ∧ Below w1.heap.size w1 w') :
    Calls Try.prog 48 #[.slice ad L.length cap, sval a0, .func (.func C) #[] caps] w fun e w' => e = .returned (sval (L.foldl f a0)) ∧ Below w.heap.size w w' := by
  have HC := hide hc
  have HR := hide h
  have HP := hide h0
  have hs1 := World.size_alloc w (sobj a0)
  have H0 : Hid (Bs ((w.alloc (sobj a0)).alloc (sobj (0, 0))) w.heap.size a0 ∧ Bs ((w.alloc (sobj a0)).alloc (sobj (0, 0))) (w.heap.size + 1) (0, 0) ∧ Below w.heap.size w ((w.alloc (sobj a0)).alloc (sobj (0, 0)))) := hide ⟨(Below.heap_alloc _ _ _ (by omega)).trans (heap_alloc_new w _), by rw [← hs1]; exact heap_alloc_new _ _, (below_alloc w _).alloc (by omega) _⟩
  clear hc h hs1 h0
  go_enter Try.func48, Try.ntmps48
  go_wp2_with fail
  obtain ⟨X, hX⟩ : ∃ X, w.heap.size = X := ⟨_, rfl⟩
  have HXe := hide hX
  rw [hX] at H0 ⊢
  go_loopw [11] (fun s wr => ∃ (i : Nat), i ≤ L.length ∧ s = .int .i64 (i : Int) ∧ Hid (P i ((L.take i).foldl f a0)) ∧ Hid (Bs wr X ((L.take i).foldl f a0) ∧ Bs wr (X + 1) (0, 0) ∧ Below X w wr)) (fun s _ => L.length - (intOf s).toNat)
  case atStart => exact ⟨0, Nat.zero_le _, rfl, HP, H0⟩
  case round =>
    clear H0
    obtain ⟨i, hi, rfl, HPi, HB⟩ := hrel
    by_cases hii : i < L.length
    · have hik : (i : Int) < (L.length : Int) := by omega
      have hat := HR.out.at_ (by omega)
      subst hat
      have hbw : Below w.heap.size w wr := by rw [hX]; exact HB.out.2.2
      have hR := HR.out.below hbw
      obtain ⟨c0, c1, c2, c3, c4, c5, c6, c7⟩ := hR.eight hii
      have hlt := hR.lt (by omega)
      have hxlt := HB.out.1.lt
      have HX := hide (HC.out (wr.alloc (L[i]).obj) i hii ((L.take i).foldl f a0) (hbw.alloc hbw.size _) HPi.out)
      have hf := fold_take f a0 L i hii
      have hba : Bs (wr.alloc (L[i]).obj) X ((L.take i).foldl f a0) := HB.out.1.keep (Below.heap_alloc _ _ _ hxlt)
      generalize (L.take i).foldl f a0 = a at *
      have HF := hide hf
      clear hf hR hX
      generalize L[i] = r at *
      have HBA := hide hba
      have d0 := hba.c0
      have d1 := hba.c1
      clear hba
      go_wp2_with fail
      refine HX.out.2.mono ?_
      rintro e w2 ⟨rfl, hB2⟩
      clear d0 d1 c0 c1 c2 c3 c4 c5 c6 c7
      have hba2 : Bs w2 X a := HBA.out.keep (hB2.block X HBA.out.lt)
      have HBY : Hid (Bs w2 (X + 1) (0, 0)) := hide (HB.out.2.1.keep ((hB2.block (X + 1) (by rw [World.size_alloc]; have := HB.out.2.1.lt; omega)).trans (Below.heap_alloc _ _ _ HB.out.2.1.lt)))
      have HB2 : Hid (Below X w w2) := hide ((HB.out.2.2.alloc (by omega) _).trans (hB2.mono (by rw [World.size_alloc]; omega)))
      have d0 := hba2.c0
      have d1 := hba2.c1
      have z0 := hba2.z 0
      have z1 := hba2.z 1
      have HP2 := hide HX.out.1
      rw [← HF.out] at HP2
      have HFin : Hid (Bs (set2 w2 X (f a r)) X ((L.take (i + 1)).foldl f a0) ∧ Bs (set2 w2 X (f a r)) (X + 1) (0, 0) ∧ Below X w (set2 w2 X (f a r))) := hide ⟨by rw [HF.out]; exact hba2.put _, HBY.out.keep (set2_other _ _ _ _ (by omega)), below_set (below_set HB2.out (Nat.le_refl _) 0 _) (Nat.le_refl _) 1 _⟩
      clear hB2 HX hba2 HB2 HBY HBA HB hbw
      go_wp2_with fail
      go_roundw
      case rel => exact ⟨i + 1, by omega, by go_num, HP2, HFin⟩
      case measure => simp only [intOf]; omega
    · have hik : ¬ (i : Int) < (L.length : Int) := by omega
      obtain rfl : i = L.length := by omega
      rw [List.take_length] at HB
      obtain ⟨a, ha⟩ : ∃ a, L.foldl f a0 = a := ⟨_, rfl⟩
      have HE := hide ha
      rw [ha] at HB
      clear ha
      have d0 := HB.out.1.c0
      have d1 := HB.out.1.c1
      have e0 := HB.out.2.1.c0
      have e1 := HB.out.2.1.c1
      have z0 := HB.out.2.1.z 0
      have z1 := HB.out.2.1.z 1
      clear hX
      go_wp2_with fail
      refine bodyPost_ret (by rw [results_c (fn := Try.f48) rfl]; go_simp; rfl) rfl ?_
      exact ⟨by rw [HE.out], by rw [HXe.out]; exact below_set (below_set HB.out.2.2 (show X ≤ X + 1 by omega) 0 _) (show X ≤ X + 1 by omega) 1 _⟩
theorem below_drew {B : Nat} {w w' : World} (h : Below B w w') : Below B w w'.drew := ⟨h.os, h.tape, h.output, h.size, h.block⟩
set_option maxHeartbeats 2000000 in
set_option maxRecDepth 8000 in
theorem open1_any {w : World} {p b : Nat} {most : Int} (hp : w.cell? ⟨p, 0, none⟩ = some (.pointer (some ⟨b, 0, none⟩))) (hb : w.cell? ⟨b, 0, none⟩ = some (.int .i64 most)) (hm0 : 0 ≤ most) (hm1 : most ≤ 1000) (s : Int × Int) (hs0 : 0 ≤ s.1) (hs1 : s.1 ≤ 1000000) (hs2 : -1000000 ≤ s.2) (hs3 : s.2 ≤ 1000000) (r : Rr) (hr0 : 0 ≤ r.att) (hr1 : r.att ≤ 1000) :
    Calls Try.prog 49 #[sval s, r.val, .pointer (some ⟨p, 0, none⟩)] w fun e w' => e = .returned (sval (opF most s r)) ∧ Below w.heap.size w w' := by
  have hlp : p < w.heap.size := World.block_lt_of_cell? _ _ hp
  have hlb : b < w.heap.size := World.block_lt_of_cell? _ _ hb
  have hq : ∀ o1 o2 o3, (((w.alloc o1).alloc o2).alloc o3).cell? ⟨p, 0, none⟩ = some (.pointer (some ⟨b, 0, none⟩)) := fun o1 o2 o3 => Lib.cell?_alloc_some _ (Lib.cell?_alloc_some _ (Lib.cell?_alloc_some _ hp))
  have hq2 : ∀ o1 o2 o3, (((w.alloc o1).alloc o2).alloc o3).cell? ⟨b, 0, none⟩ = some (.int .i64 most) := fun o1 o2 o3 => Lib.cell?_alloc_some _ (Lib.cell?_alloc_some _ (Lib.cell?_alloc_some _ hb))
  have HB := hide (fun o1 o2 o3 => below_alloc3 w o1 o2 o3)
  by_cases h1 : r.st = 1
  · have b1 : (r.st == 1) = true := by simpa using h1
    have HE : Hid (opF most s r = (s.1 + 1, s.2 + most - r.att)) := if_pos (.inl h1)
    clear h1
    go_enter Try.func49, Try.ntmps49
    go_wp2
    go_region
    go_wp2
    refine bodyPost_ret (by rw [results_c (fn := Try.f49) rfl]; go_simp; rfl) rfl ?_
    exact ⟨by rw [HE.out], below_drew (below_alloc3 _ _ _ _)⟩
  · have b1 : (r.st == 1) = false := by simpa using h1
    by_cases h2 : r.st = 2
    · have b2 : (r.st == 2) = true := by simpa using h2
      have HE : Hid (opF most s r = (s.1 + 1, s.2 + most - r.att)) := if_pos (.inr h2)
      clear h1 h2
      go_enter Try.func49, Try.ntmps49
      go_wp2
      go_region
      go_wp2
      refine bodyPost_ret (by rw [results_c (fn := Try.f49) rfl]; go_simp; rfl) rfl ?_
      exact ⟨by rw [HE.out], below_drew (below_alloc3 _ _ _ _)⟩
    · have b2 : (r.st == 2) = false := by simpa using h2
      have HE : Hid (opF most s r = s) := if_neg (by rintro (h | h); exact h1 h; exact h2 h)
      clear h1 h2
      go_enter Try.func49, Try.ntmps49
      go_wp2
      refine bodyPost_ret (by rw [results_c (fn := Try.f49) rfl]; go_simp; rfl) rfl ?_
      exact ⟨by rw [HE.out], below_alloc3 _ _ _ _⟩
end Go.Proofs.Ytkchddphmkgilaa
