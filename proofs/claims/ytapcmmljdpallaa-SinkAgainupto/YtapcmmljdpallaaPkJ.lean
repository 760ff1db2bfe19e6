import Derived.Test.YtapcmmljdpallaaPkI
namespace Go.Proofs.Ytapcmmljdpallaa
open Go.RowKit

theorem FPost.back {w w2 : World} {B : Nat} {b : ByteArray} {p : Int} {A Z : Value} {q k : Nat} {e : Ending} {w' : World} (hb : Below w.heap.size w w2) (h : FPost w2 B b p A Z q k e w') : FPost w B b p A Z q k e w' :=
  ⟨h.ok, h.no, grown_trans (grown_below hb _) h.grown⟩
theorem below_two (w : World) (o o' : Obj) : Below w.heap.size w ((w.alloc o).alloc o') := ((Below.refl _ _).alloc (Nat.le_refl _) _).alloc (by simp) _
theorem two_X (w : World) (v : Value) (t : TypeId) (o : Obj) : ((w.alloc (.cells #[v] t)).alloc o).cell? ⟨w.heap.size, 0, none⟩ = some v := by
  rw [World.cell?_alloc_past _ _ _ (by simp), World.cell?_alloc_at _ _ _ _ rfl]; rfl
theorem two_Y (w : World) (v : Value) (t : TypeId) (o : Obj) : ((w.alloc o).alloc (.cells #[v] t)).cell? ⟨w.heap.size + 1, 0, none⟩ = some v := by
  rw [World.cell?_alloc_at _ _ _ _ (by simp)]; rfl
theorem one_X (w : World) (v : Value) (t : TypeId) : (w.alloc (.cells #[v] t)).cell? ⟨w.heap.size, 0, none⟩ = some v := by
  rw [World.cell?_alloc_at _ _ _ _ rfl]; rfl

theorem run_rnum (X Y : Nat) (w1 : World) : (callFunc 36 #[.pointer (some ⟨X, 0, none⟩), .pointer (some ⟨Y, 0, none⟩)]).run Try.prog w1 = .ok (.enter 36 #[.pointer (some ⟨X, 0, none⟩), .pointer (some ⟨Y, 0, none⟩)]) w1 := by kernel_rfl
set_option maxHeartbeats 400000 in
theorem rnum_any {w : World} {B p : Nat} {b : ByteArray} {most : Nat} (h : Rd w B b p 0) (hp : p ≤ b.size) (hb : b.size ≤ 140737488351232) :
    Calls Try.prog 24 #[.pointer (some ⟨B, 0, none⟩), .int .u64 (most : Int)] w (FPost w B b p (.int .u64 (numV b p : Int)) (.int .u64 0) (numQ b p) (numK b p most 21)) := by
  have hmf : ∀ (fn : Fn) (first cap : Array Value) (w : World), (Instr.makeFunc fn first cap).run Try.prog w = .ok (.func fn first cap) w := fun _ _ _ _ => rfl
  have hlt := h.lt
  have HF : Hid (Calls Try.prog 35 #[.pointer (some ⟨B, 0, none⟩), .func (.func 36) #[] #[.pointer (some ⟨w.heap.size, 0, none⟩), .pointer (some ⟨w.heap.size + 1, 0, none⟩)]] ((w.alloc (.cells #[.pointer (some ⟨B, 0, none⟩)] 72)).alloc (.cells #[.int .u64 (most : Int)] 41))
      (FPost ((w.alloc (.cells #[.pointer (some ⟨B, 0, none⟩)] 72)).alloc (.cells #[.int .u64 (most : Int)] 41)) B b p (.int .u64 (numV b p : Int)) (.int .u64 0) (numQ b p) (numK b p most 21))) :=
    faceU ((h.alloc _).alloc _) _ _ _ _ _ (run_rnum _ _) (fun w1 hbel hR => num1_any hR hp hb ((hbel.cell (by simp; omega)).trans (two_X w _ _ _)) ((hbel.cell (by simp)).trans (two_Y w _ _ _)))
  go_enter Try.func24, Try.ntmps24
  go_wp2_with fail
  refine HF.out.mono ?_
  intro e w' hF
  by_cases hk : numK b p most 21 = 0
  · obtain ⟨rfl, hR⟩ := hF.ok hk
    have HP : Hid (FPost w B b p (.int .u64 (numV b p : Int)) (.int .u64 0) (numQ b p) (numK b p most 21) (.returned (.int .u64 (numV b p : Int))) w') := hF.back (below_two _ _ _)
    clear hF hk hR
    go_wp2_with fail
    go_ret
    exact HP.out
  · obtain ⟨rfl, hR⟩ := hF.no hk
    have HP : Hid (FPost w B b p (.int .u64 (numV b p : Int)) (.int .u64 0) (numQ b p) (numK b p most 21) (.returned (.int .u64 0)) w') := hF.back (below_two _ _ _)
    clear hF hk hR
    go_wp2_with fail
    go_ret
    exact HP.out
set_option maxHeartbeats 400000 in
theorem rnum_dead {w : World} {B : Nat} {b : ByteArray} {p f : Int} {most : Nat} (h : Rd w B b p f) (hf : f ≠ 0) :
    Calls Try.prog 24 #[.pointer (some ⟨B, 0, none⟩), .int .u64 (most : Int)] w fun e w' => e = .returned (.int .u64 0) ∧ Below w.heap.size w w' := by
  have hmf : ∀ (fn : Fn) (first cap : Array Value) (w : World), (Instr.makeFunc fn first cap).run Try.prog w = .ok (.func fn first cap) w := fun _ _ _ _ => rfl
  go_enter Try.func24, Try.ntmps24
  go_wp2_with fail
  refine (faceU_dead ((h.alloc _).alloc _) hf _ _).mono ?_
  rintro e w' ⟨rfl, hb1⟩
  go_wp2_with fail
  go_ret
  exact ⟨rfl, (below_two _ _ _).trans (hb1.mono (by simp; omega))⟩

theorem run_rtext (X Y : Nat) (w1 : World) : (callFunc 88 #[.pointer (some ⟨X, 0, none⟩), .pointer (some ⟨Y, 0, none⟩)]).run Try.prog w1 = .ok (.enter 88 #[.pointer (some ⟨X, 0, none⟩), .pointer (some ⟨Y, 0, none⟩)]) w1 := by kernel_rfl
set_option maxHeartbeats 400000 in
theorem rtext_any {w : World} {B p : Nat} {b : ByteArray} {most : Int} (hm : most ≤ 9223372036854775807) (h : Rd w B b p 0) (hp : p ≤ b.size) (hb : b.size ≤ 140737488351232) :
    Calls Try.prog 82 #[.pointer (some ⟨B, 0, none⟩), .int .i64 most] w (FPost w B b p (.string (textV b p)) (.string ⟨#[]⟩) (numQ b p + numV b p) (textK b p most.toNat)) := by
  have hmf : ∀ (fn : Fn) (first cap : Array Value) (w : World), (Instr.makeFunc fn first cap).run Try.prog w = .ok (.func fn first cap) w := fun _ _ _ _ => rfl
  have hlt := h.lt
  have HF : Hid (Calls Try.prog 87 #[.pointer (some ⟨B, 0, none⟩), .func (.func 88) #[] #[.pointer (some ⟨w.heap.size, 0, none⟩), .pointer (some ⟨w.heap.size + 1, 0, none⟩)]] ((w.alloc (.cells #[.pointer (some ⟨B, 0, none⟩)] 72)).alloc (.cells #[.int .i64 most] 3))
      (FPost ((w.alloc (.cells #[.pointer (some ⟨B, 0, none⟩)] 72)).alloc (.cells #[.int .i64 most] 3)) B b p (.string (textV b p)) (.string ⟨#[]⟩) (numQ b p + numV b p) (textK b p most.toNat))) :=
    faceS ((h.alloc _).alloc _) _ _ _ _ _ (run_rtext _ _) (fun w1 hbel hR => text1_any hR hp hb hm ((hbel.cell (by simp; omega)).trans (two_X w _ _ _)) ((hbel.cell (by simp)).trans (two_Y w _ _ _)) (by omega) (by omega))
  go_enter Try.func82, Try.ntmps82
  go_wp2_with fail
  refine HF.out.mono ?_
  intro e w' hF
  by_cases hk : textK b p most.toNat = 0
  · obtain ⟨rfl, hR⟩ := hF.ok hk
    have HP : Hid (FPost w B b p (.string (textV b p)) (.string ⟨#[]⟩) (numQ b p + numV b p) (textK b p most.toNat) (.returned (.string (textV b p))) w') := hF.back (below_two _ _ _)
    clear hF hk hR
    go_wp2_with fail
    go_ret
    exact HP.out
  · obtain ⟨rfl, hR⟩ := hF.no hk
    have HP : Hid (FPost w B b p (.string (textV b p)) (.string ⟨#[]⟩) (numQ b p + numV b p) (textK b p most.toNat) (.returned (.string ⟨#[]⟩)) w') := hF.back (below_two _ _ _)
    clear hF hk hR
    go_wp2_with fail
    go_ret
    exact HP.out
set_option maxHeartbeats 400000 in
theorem rtext_dead {w : World} {B : Nat} {b : ByteArray} {p f : Int} {most : Int} (h : Rd w B b p f) (hf : f ≠ 0) :
    Calls Try.prog 82 #[.pointer (some ⟨B, 0, none⟩), .int .i64 most] w fun e w' => e = .returned (.string ⟨#[]⟩) ∧ Below w.heap.size w w' := by
  have hmf : ∀ (fn : Fn) (first cap : Array Value) (w : World), (Instr.makeFunc fn first cap).run Try.prog w = .ok (.func fn first cap) w := fun _ _ _ _ => rfl
  go_enter Try.func82, Try.ntmps82
  go_wp2_with fail
  refine (faceS_dead ((h.alloc _).alloc _) hf _ _).mono ?_
  rintro e w' ⟨rfl, hb1⟩
  go_wp2_with fail
  go_ret
  exact ⟨rfl, (below_two _ _ _).trans (hb1.mono (by simp; omega))⟩

theorem run_rbits (X : Nat) (w1 : World) : (callFunc 85 #[.pointer (some ⟨X, 0, none⟩)]).run Try.prog w1 = .ok (.enter 85 #[.pointer (some ⟨X, 0, none⟩)]) w1 := by kernel_rfl
set_option maxHeartbeats 400000 in
theorem rbits_any {w : World} {B p : Nat} {b : ByteArray} (h : Rd w B b p 0) (hp : p ≤ b.size) (hb : b.size ≤ 140737488351232) :
    Calls Try.prog 76 #[.pointer (some ⟨B, 0, none⟩)] w (FPost w B b p (.int .u64 (bitsV b p : Int)) (.int .u64 0) (p + 8) (bitsK b p)) := by
  have hmf : ∀ (fn : Fn) (first cap : Array Value) (w : World), (Instr.makeFunc fn first cap).run Try.prog w = .ok (.func fn first cap) w := fun _ _ _ _ => rfl
  have hlt := h.lt
  have HF : Hid (Calls Try.prog 35 #[.pointer (some ⟨B, 0, none⟩), .func (.func 85) #[] #[.pointer (some ⟨w.heap.size, 0, none⟩)]] (w.alloc (.cells #[.pointer (some ⟨B, 0, none⟩)] 72))
      (FPost (w.alloc (.cells #[.pointer (some ⟨B, 0, none⟩)] 72)) B b p (.int .u64 (bitsV b p : Int)) (.int .u64 0) (p + 8) (bitsK b p))) :=
    faceU (h.alloc _) _ _ _ _ _ (run_rbits _) (fun w1 hbel hR => bits1_any hR hp hb ((hbel.cell (by simp)).trans (one_X w _ _)))
  go_enter Try.func76, Try.ntmps76
  go_wp2_with fail
  refine HF.out.mono ?_
  intro e w' hF
  by_cases hk : bitsK b p = 0
  · obtain ⟨rfl, hR⟩ := hF.ok hk
    have HP : Hid (FPost w B b p (.int .u64 (bitsV b p : Int)) (.int .u64 0) (p + 8) (bitsK b p) (.returned (.int .u64 (bitsV b p : Int))) w') := hF.back (below_alloc _ _)
    clear hF hk hR
    go_wp2_with fail
    go_ret
    exact HP.out
  · obtain ⟨rfl, hR⟩ := hF.no hk
    have HP : Hid (FPost w B b p (.int .u64 (bitsV b p : Int)) (.int .u64 0) (p + 8) (bitsK b p) (.returned (.int .u64 0)) w') := hF.back (below_alloc _ _)
    clear hF hk hR
    go_wp2_with fail
    go_ret
    exact HP.out
set_option maxHeartbeats 400000 in
theorem rbits_dead {w : World} {B : Nat} {b : ByteArray} {p f : Int} (h : Rd w B b p f) (hf : f ≠ 0) :
    Calls Try.prog 76 #[.pointer (some ⟨B, 0, none⟩)] w fun e w' => e = .returned (.int .u64 0) ∧ Below w.heap.size w w' := by
  have hmf : ∀ (fn : Fn) (first cap : Array Value) (w : World), (Instr.makeFunc fn first cap).run Try.prog w = .ok (.func fn first cap) w := fun _ _ _ _ => rfl
  go_enter Try.func76, Try.ntmps76
  go_wp2_with fail
  refine (faceU_dead (h.alloc _) hf _ _).mono ?_
  rintro e w' ⟨rfl, hb1⟩
  go_wp2_with fail
  go_ret
  exact ⟨rfl, (below_alloc _ _).trans (hb1.mono (by simp))⟩
set_option maxHeartbeats 400000 in
theorem read_any (b : ByteArray) (w : World) :
    Calls Try.prog 23 #[.string b] w fun e w' => e = .returned (.pointer (some ⟨w.heap.size, 0, none⟩)) ∧ Rd w' w.heap.size b 0 0 ∧ Below w.heap.size w w' := by
  go_enter Try.func23, Try.ntmps23
  go_wp2
  go_ret
  exact ⟨rfl, heap_alloc_new w _, below_alloc _ _⟩
end Go.Proofs.Ytapcmmljdpallaa
