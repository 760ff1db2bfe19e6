import Derived.Test.YtjabnddjahhgoaaRcK
namespace Go.Proofs.Ytjabnddjahhgoaa
open Go.RowKit
open Rc (L V Ch)

/-- the reader's value -/
def rvB (B : Nat) : Value := .agg #[.pointer (some ⟨B, 0, none⟩)]
/-- a reading call's ending -/
def QPost (w : World) (B : Nat) (b : ByteArray) {α : Type} (f : α → Value) (x : Option (α × Nat)) (e : Ending) (w' : World) : Prop :=
  (match x with | some y => e = .returned (f y.1) ∧ Rd w' B b (y.2 : Int) 0 | none => Gives e 83) ∧ w.grownBy w' (some B)
theorem drewN_below (w : World) (n : Nat) : Below w.heap.size w (w.drewN n) := ⟨rfl, rfl, rfl, Nat.le_refl _, fun _ _ => rfl⟩
theorem need_ok {w : World} {B : Nat} {b : ByteArray} {p : Int} (h : Rd w B b p 0) :
    Calls Try.prog 32 #[rvB B, .bool true] w fun e w' => e = .returned (.tuple #[]) ∧ Below w.heap.size w w' := by
  have hnot : ∀ (x : Bool) (w : World), (Op.unary .not (.bool x)).run Try.prog w = .ok (.bool (!x)) w := fun _ _ => rfl
  have HF := hide (fault_any (h.alloc (.cells #[.pointer (some ⟨B, 0, none⟩)] 68)))
  unfold rvB
  clear h
  go_enter Try.func32, Try.ntmps32
  go_wp2_with fail
  refine HF.out.mono ?_
  rintro e w1 ⟨rfl, n, rfl⟩
  go_wp2
  go_end0
  exact ⟨rfl, (below_alloc w _).trans ((drewN_below _ n).mono (by simp))⟩
theorem need_no {w : World} {B : Nat} {b : ByteArray} {p f : Int} (h : Rd w B b p f) (m : Bool) (hm : f ≠ 0 ∨ m = false) :
    Calls Try.prog 32 #[rvB B, .bool m] w fun e w' => Gives e 83 ∧ Below w.heap.size w w' := by
  have hnot : ∀ (x : Bool) (w : World), (Op.unary .not (.bool x)).run Try.prog w = .ok (.bool (!x)) w := fun _ _ => rfl
  have HF := hide (fault_any (h.alloc (.cells #[.pointer (some ⟨B, 0, none⟩)] 68)))
  unfold rvB
  clear h
  by_cases h0 : f = 0
  · obtain rfl : m = false := hm.resolve_left (fun h => h h0)
    subst h0
    clear hm
    go_enter Try.func32, Try.ntmps32
    go_wp2_with fail
    refine HF.out.mono ?_
    rintro e w1 ⟨rfl, n, rfl⟩
    go_wp2
    exact ⟨rfl, rfl, (below_alloc w _).trans ((drewN_below _ n).mono (by simp))⟩
  · have b0 : (f != 0) = true := by rw [bne_iff_ne]; exact h0
    rw [if_neg h0] at HF
    clear hm h0
    go_enter Try.func32, Try.ntmps32
    go_wp2_with fail
    refine HF.out.mono ?_
    rintro e w1 ⟨rfl, n, rfl⟩
    go_wp2
    exact ⟨rfl, rfl, (below_alloc w _).trans ((drewN_below _ n).mono (by simp))⟩
theorem rd_below {w w' : World} {B : Nat} {b : ByteArray} {p f : Int} (h : Rd w B b p f) (hb : Below w.heap.size w w') : Rd w' B b p f := (hb.block _ (lt_of_block h)).trans h
set_option maxHeartbeats 400000 in
theorem rnumber_any {w : World} {B p : Nat} {b : ByteArray} (h : Rd w B b p 0) (hp : p ≤ b.size) (hb : b.size ≤ 140737488351232) (lo hi : Nat) (hh : hi < 9223372036854775808) :
    Calls Try.prog 33 #[rvB B, .int .i64 (lo : Int), .int .i64 (hi : Int)] w (QPost w B b (fun n : Nat => .int .i64 (n : Int)) (Rc.rN b lo hi p)) := by
  have HN := hide (rnumP (most := hi) (h.alloc (.cells #[.pointer (some ⟨B, 0, none⟩)] 68)) hp hb)
  have hlt := lt_of_block h
  unfold rvB
  by_cases hk : numK b p hi 21 = 0
  · have hr : Wr.rdN b hi p 0 = (numV b p, numQ b p, 0) := by unfold Wr.rdN; rw [if_neg (by simp), if_pos hk]
    have hv : numV b p ≤ hi := by obtain ⟨_, _, h2, _⟩ := num_form hp (by decide) hk; exact h2
    rw [hr] at HN
    have HR : Hid (Rc.rN b lo hi p = if lo ≤ numV b p then some (numV b p, numQ b p) else none) := hide (by unfold Rc.rN; simp only [hk, true_and])
    clear hr hk h
    generalize numV b p = N at *
    generalize numQ b p = q at *
    go_enter Try.func33, Try.ntmps33
    go_wp2_with fail
    refine HN.out.mono ?_
    rintro e w1 ⟨rfl, h1, hg1⟩
    have cb : w1.cell? ⟨w.heap.size, 0, none⟩ = some (.pointer (some ⟨B, 0, none⟩)) := hg1.cell (show (w.alloc (.cells #[.pointer (some ⟨B, 0, none⟩)] 68)).cell? ⟨w.heap.size, 0, none⟩ = _ by rw [World.cell?_alloc_at _ _ _ _ rfl]; rfl) (by simp; omega)
    have HG := hide (grown_trans (grown_below (below_alloc w (.cells #[.pointer (some ⟨B, 0, none⟩)] 68)) (some B)) hg1)
    have H1 := hide h1
    clear HN hg1 h1
    by_cases hl : lo ≤ N
    · have hd : decide (lo ≤ N) = true := decide_eq_true hl
      have HR2 : Hid (Rc.rN b lo hi p = some (N, q)) := hide (by rw [HR.out, if_pos hl])
      have HK := hide (need_ok H1.out)
      unfold rvB at HK
      clear HR hl
      go_wp2_with fail
      refine HK.out.mono ?_
      rintro e w2 ⟨rfl, hb2⟩
      have HF : Hid (Rd w2 B b (q : Int) 0 ∧ w.grownBy w2 (some B)) := hide ⟨rd_below H1.out hb2, grown_trans HG.out (grown_below hb2 _)⟩
      clear hb2 H1 HG HK
      go_wp2
      go_ret
      unfold QPost
      rw [HR2.out]
      exact ⟨⟨rfl, HF.out.1⟩, HF.out.2⟩
    · have hd : decide (lo ≤ N) = false := decide_eq_false hl
      have HR2 : Hid (Rc.rN b lo hi p = none) := hide (by rw [HR.out, if_neg hl])
      have HK := hide (need_no H1.out false (.inr rfl))
      unfold rvB at HK
      clear HR hl
      go_wp2_with fail
      refine HK.out.mono ?_
      rintro e w2 ⟨he, hb2⟩
      unfold Gives at he
      subst he
      have HF : Hid (w.grownBy w2 (some B)) := hide (grown_trans HG.out (grown_below hb2 _))
      clear hb2 H1 HG HK
      go_wp2
      refine ⟨rfl, ?_⟩
      unfold QPost
      rw [HR2.out]
      exact ⟨rfl, HF.out⟩
  · have hr : Wr.rdN b hi p 0 = (0, p, numK b p hi 21) := by unfold Wr.rdN; rw [if_neg (by simp), if_neg hk]
    rw [hr] at HN
    have HR : Hid (Rc.rN b lo hi p = none) := hide (by unfold Rc.rN; rw [if_neg (fun h => hk h.1)])
    have hk' : ((numK b p hi 21 : Nat) : Int) ≠ 0 := by omega
    clear hr hk h
    generalize numK b p hi 21 = f at *
    go_enter Try.func33, Try.ntmps33
    go_wp2_with fail
    refine HN.out.mono ?_
    rintro e w1 ⟨rfl, h1, hg1⟩
    have cb : w1.cell? ⟨w.heap.size, 0, none⟩ = some (.pointer (some ⟨B, 0, none⟩)) := hg1.cell (show (w.alloc (.cells #[.pointer (some ⟨B, 0, none⟩)] 68)).cell? ⟨w.heap.size, 0, none⟩ = _ by rw [World.cell?_alloc_at _ _ _ _ rfl]; rfl) (by simp; omega)
    have HG := hide (grown_trans (grown_below (below_alloc w (.cells #[.pointer (some ⟨B, 0, none⟩)] 68)) (some B)) hg1)
    have HK := hide (fun m => need_no h1 m (.inl hk'))
    unfold rvB at HK
    clear HN hg1 h1 hk'
    go_wp2_with fail
    refine (HK.out _).mono ?_
    rintro e w2 ⟨he, hb2⟩
    unfold Gives at he
    subst he
    have HF : Hid (w.grownBy w2 (some B)) := hide (grown_trans HG.out (grown_below hb2 _))
    clear hb2 HG HK
    go_wp2
    refine ⟨rfl, ?_⟩
    unfold QPost
    rw [HR.out]
    exact ⟨rfl, HF.out⟩
end Go.Proofs.Ytjabnddjahhgoaa
