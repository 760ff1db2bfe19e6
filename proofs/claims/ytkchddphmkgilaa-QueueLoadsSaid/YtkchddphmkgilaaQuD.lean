import Derived.Test.YtkchddphmkgilaaQuC
namespace Go.Proofs.Ytkchddphmkgilaa
open Go.RowKit

theorem heap_set_self (w : World) (g o : Nat) (v : Value) (cur : Array Value) (t : TypeId) (fr : Nat × Nat) (h : w.heap[g]? = some (.cells cur t fr)) : (w.setCell ⟨g, o, none⟩ v).heap[g]? = some (.cells (cur.setIfInBounds o v) t fr) := by
  have hlt := lt_of_block h
  have h' : w.heap[g] = .cells cur t fr := by simpa [Array.getElem?_eq_getElem hlt] using h
  show (w.heap.modify g _)[g]? = _
  rw [Array.getElem?_eq_getElem (by simpa using hlt), Array.getElem_modify_self, h']
  rfl
theorem setCell_size (w : World) (a : Addr) (v : Value) : (w.setCell a v).heap.size = w.heap.size := by simp [World.setCell]
/-- a block of a row -/
def Bx (w : World) (X : Nat) (r : Rr) : Prop := w.heap[X]? = some r.obj
theorem Bx.cells {w : World} {X : Nat} {r : Rr} (h : Bx w X r) : w.cell? ⟨X, 0, none⟩ = some (.int .i64 r.job) ∧ w.cell? ⟨X, 1, none⟩ = some (.int .i64 r.st) ∧ w.cell? ⟨X, 2, none⟩ = some (.int .i64 r.att) ∧ w.cell? ⟨X, 3, none⟩ = some (.int .i64 r.bdg) ∧ w.cell? ⟨X, 4, none⟩ = some (.int .i64 r.node) ∧ w.cell? ⟨X, 5, none⟩ = some (.int .i64 r.life) ∧ w.cell? ⟨X, 6, none⟩ = some (.int .i64 r.code) ∧ w.cell? ⟨X, 7, none⟩ = some (.int .u64 r.bits) := by
  unfold Bx at h
  simp [World.cell?, h]
theorem Bx.z {w : World} {X : Nat} {r : Rr} (h : Bx w X r) (k : Nat) : w.frozen? ⟨X, k, none⟩ = false := by unfold Bx at h; simp [World.frozen?, h]
theorem Bx.lt {w : World} {X : Nat} {r : Rr} (h : Bx w X r) : X < w.heap.size := lt_of_block h
theorem Bx.keep {w w' : World} {X : Nat} {r : Rr} (h : Bx w X r) (e : w'.heap[X]? = w.heap[X]?) : Bx w' X r := e.trans h
/-- a row stored into a block -/
abbrev set8 (w : World) (X : Nat) (r : Rr) : World := (((((((w.setCell ⟨X, 0, none⟩ (.int .i64 r.job)).setCell ⟨X, 1, none⟩ (.int .i64 r.st)).setCell ⟨X, 2, none⟩ (.int .i64 r.att)).setCell ⟨X, 3, none⟩ (.int .i64 r.bdg)).setCell ⟨X, 4, none⟩ (.int .i64 r.node)).setCell ⟨X, 5, none⟩ (.int .i64 r.life)).setCell ⟨X, 6, none⟩ (.int .i64 r.code)).setCell ⟨X, 7, none⟩ (.int .u64 r.bits)
theorem Bx.put {w : World} {X : Nat} {q : Rr} (h : Bx w X q) (r : Rr) : Bx (set8 w X r) X r := by
  have e0 := heap_set_self w X 0 (.int .i64 r.job) _ _ _ h
  have e1 := heap_set_self _ X 1 (.int .i64 r.st) _ _ _ e0
  have e2 := heap_set_self _ X 2 (.int .i64 r.att) _ _ _ e1
  have e3 := heap_set_self _ X 3 (.int .i64 r.bdg) _ _ _ e2
  have e4 := heap_set_self _ X 4 (.int .i64 r.node) _ _ _ e3
  have e5 := heap_set_self _ X 5 (.int .i64 r.life) _ _ _ e4
  have e6 := heap_set_self _ X 6 (.int .i64 r.code) _ _ _ e5
  have e7 := heap_set_self _ X 7 (.int .u64 r.bits) _ _ _ e6
  simp only [List.setIfInBounds_toArray, List.set_cons_zero, List.set_cons_succ] at e7
  exact e7
theorem set8_other (w : World) (X : Nat) (r : Rr) (k : Nat) (hk : k ≠ X) : (set8 w X r).heap[k]? = w.heap[k]? :=
  (Below.heap_setCell _ ⟨X, 7, none⟩ _ k hk).trans ((Below.heap_setCell _ ⟨X, 6, none⟩ _ k hk).trans ((Below.heap_setCell _ ⟨X, 5, none⟩ _ k hk).trans ((Below.heap_setCell _ ⟨X, 4, none⟩ _ k hk).trans ((Below.heap_setCell _ ⟨X, 3, none⟩ _ k hk).trans ((Below.heap_setCell _ ⟨X, 2, none⟩ _ k hk).trans ((Below.heap_setCell _ ⟨X, 1, none⟩ _ k hk).trans (Below.heap_setCell _ ⟨X, 0, none⟩ _ k hk)))))))
theorem set8_size (w : World) (X : Nat) (r : Rr) : (set8 w X r).heap.size = w.heap.size := by
  unfold set8
  simp only [setCell_size]
theorem below_set {B : Nat} {w w' : World} (h : Below B w w') {X : Nat} (hX : B ≤ X) (o : Nat) (v : Value) : Below B w (w'.setCell ⟨X, o, none⟩ v) :=
  ⟨h.os, h.tape, h.output, by rw [setCell_size]; exact h.size, fun k hk => (Below.heap_setCell _ ⟨X, o, none⟩ _ k (show k ≠ X by omega)).trans (h.block k hk)⟩
theorem set8_below {B : Nat} {w w' : World} (h : Below B w w') (X : Nat) (hX : B ≤ X) (r : Rr) : Below B w (set8 w' X r) := by
  have e0 := below_set h hX 0 (.int .i64 r.job)
  have e1 := below_set e0 hX 1 (.int .i64 r.st)
  have e2 := below_set e1 hX 2 (.int .i64 r.att)
  have e3 := below_set e2 hX 3 (.int .i64 r.bdg)
  have e4 := below_set e3 hX 4 (.int .i64 r.node)
  have e5 := below_set e4 hX 5 (.int .i64 r.life)
  have e6 := below_set e5 hX 6 (.int .i64 r.code)
  exact below_set e6 hX 7 (.int .u64 r.bits)

set_option maxHeartbeats 4000000 in
set_option maxRecDepth 8000 in
/-- askAll at rows -/
theorem askR_any {w : World} {ad : Option Addr} {ab ao cap : Nat} {L : List Rr} (h : Rs w ad ab ao L) (hl : L.length ≤ 4398046511104) (C : FuncId) (caps : Array Value) (f : Rr → Rr → Rr) (a0 : Rr)
    (hrun : ∀ (a r : Value) (w1 : World), (callFunc C (#[a, r] ++ caps)).run Try.prog w1 = .ok (.enter C (#[a, r] ++ caps)) w1)
    (hc : ∀ (w1 : World) (i : Nat) (hi : i < L.length) (a : Rr), Below w.heap.size w w1 → Calls Try.prog C (#[a.val, (L[i]).val] ++ caps) w1 fun e w' => e = .returned (f a L[i]).val ∧ Below w1.heap.size w1 w') :
    Calls Try.prog 41 #[.slice ad L.length cap, a0.val, .func (.func C) #[] caps] w fun e w' => e = .returned (L.foldl f a0).val ∧ Below w.heap.size w w' := by
  have HC := hide hc
  have HR := hide h
  have hs1 := World.size_alloc w a0.obj
  have H0 : Hid (Bx ((w.alloc a0.obj).alloc rr0.obj) w.heap.size a0 ∧ Bx ((w.alloc a0.obj).alloc rr0.obj) (w.heap.size + 1) rr0 ∧ Below w.heap.size w ((w.alloc a0.obj).alloc rr0.obj)) := hide ⟨(Below.heap_alloc _ _ _ (by omega)).trans (heap_alloc_new w _), by rw [← hs1]; exact heap_alloc_new _ _, (below_alloc w _).alloc (by omega) _⟩
  clear hc h hs1
  go_enter Try.func41, Try.ntmps41
  go_wp2_with fail
  obtain ⟨X, hX⟩ : ∃ X, w.heap.size = X := ⟨_, rfl⟩
  have HXe := hide hX
  rw [hX] at H0 ⊢
  go_loopw [11] (fun s wr => ∃ (i : Nat), i ≤ L.length ∧ s = .int .i64 (i : Int) ∧ Hid (Bx wr X ((L.take i).foldl f a0) ∧ Bx wr (X + 1) rr0 ∧ Below X w wr)) (fun s _ => L.length - (intOf s).toNat)
  case atStart => exact ⟨0, Nat.zero_le _, rfl, H0⟩
  case round =>
    clear H0
    obtain ⟨i, hi, rfl, HB⟩ := hrel
    by_cases hii : i < L.length
    · have hik : (i : Int) < (L.length : Int) := by omega
      have hat := HR.out.at_ (by omega)
      subst hat
      have hbw : Below w.heap.size w wr := by rw [hX]; exact HB.out.2.2
      have hR := HR.out.below hbw
      obtain ⟨c0, c1, c2, c3, c4, c5, c6, c7⟩ := hR.eight hii
      have hlt := hR.lt (by omega)
      have hxlt := HB.out.1.lt
      have HX := hide (HC.out (wr.alloc (L[i]).obj) i hii ((L.take i).foldl f a0) (hbw.alloc hbw.size _))
      have hf := fold_take f a0 L i hii
      have hba : Bx (wr.alloc (L[i]).obj) X ((L.take i).foldl f a0) := HB.out.1.keep (Below.heap_alloc _ _ _ hxlt)
      generalize (L.take i).foldl f a0 = a at *
      have HF := hide hf
      clear hf hR hX
      generalize L[i] = r at *
      have HBA := hide hba
      obtain ⟨d0, d1, d2, d3, d4, d5, d6, d7⟩ := hba.cells
      clear hba
      go_wp2_with fail
      refine HX.out.mono ?_
      rintro e w2 ⟨rfl, hB2⟩
      clear d0 d1 d2 d3 d4 d5 d6 d7 c0 c1 c2 c3 c4 c5 c6 c7
      have hba2 : Bx w2 X a := HBA.out.keep (hB2.block X HBA.out.lt)
      have HBY : Hid (Bx w2 (X + 1) rr0) := hide (HB.out.2.1.keep ((hB2.block (X + 1) (by rw [World.size_alloc]; have := HB.out.2.1.lt; omega)).trans (Below.heap_alloc _ _ _ HB.out.2.1.lt)))
      have HB2 : Hid (Below X w w2) := hide ((HB.out.2.2.alloc (by omega) _).trans (hB2.mono (by rw [World.size_alloc]; omega)))
      obtain ⟨d0, d1, d2, d3, d4, d5, d6, d7⟩ := hba2.cells
      have z0 := hba2.z 0
      have z1 := hba2.z 1
      have z2 := hba2.z 2
      have z3 := hba2.z 3
      have z4 := hba2.z 4
      have z5 := hba2.z 5
      have z6 := hba2.z 6
      have z7 := hba2.z 7
      have HFin : Hid (Bx (set8 w2 X (f a r)) X ((L.take (i + 1)).foldl f a0) ∧ Bx (set8 w2 X (f a r)) (X + 1) rr0 ∧ Below X w (set8 w2 X (f a r))) := hide ⟨by rw [HF.out]; exact hba2.put _, HBY.out.keep (set8_other _ _ _ _ (by omega)), set8_below HB2.out X (Nat.le_refl _) _⟩
      clear hB2 HX hba2 HB2 HBY HBA HB hbw
      go_wp2_with fail
      go_roundw
      case rel => exact ⟨i + 1, by omega, by go_num, HFin⟩
      case measure => simp only [intOf]; omega
    · have hik : ¬ (i : Int) < (L.length : Int) := by omega
      obtain rfl : i = L.length := by omega
      rw [List.take_length] at HB
      obtain ⟨a, ha⟩ : ∃ a, L.foldl f a0 = a := ⟨_, rfl⟩
      have HE := hide ha
      rw [ha] at HB
      clear ha
      obtain ⟨d0, d1, d2, d3, d4, d5, d6, d7⟩ := HB.out.1.cells
      obtain ⟨e0, e1, e2, e3, e4, e5, e6, e7⟩ := HB.out.2.1.cells
      have z0 := HB.out.2.1.z 0
      have z1 := HB.out.2.1.z 1
      have z2 := HB.out.2.1.z 2
      have z3 := HB.out.2.1.z 3
      have z4 := HB.out.2.1.z 4
      have z5 := HB.out.2.1.z 5
      have z6 := HB.out.2.1.z 6
      have z7 := HB.out.2.1.z 7
      clear hX
      go_wp2_with fail
      refine bodyPost_ret (by rw [results_c (fn := Try.f41) rfl]; go_simp; rfl) rfl ?_
      exact ⟨by rw [HE.out], by rw [HXe.out]; exact set8_below HB.out.2.2 (X + 1) (by omega) a⟩
end Go.Proofs.Ytkchddphmkgilaa
