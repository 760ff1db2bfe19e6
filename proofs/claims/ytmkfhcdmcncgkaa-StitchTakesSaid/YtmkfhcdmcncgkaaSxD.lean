import Derived.Test.YtmkfhcdmcncgkaaSxC
import Derived.Test.YtmkfhcdmcncgkaaShelfX
namespace Go.Proofs.Ytmkfhcdmcncgkaa
open Go.RowKit Go.Shelf

attribute [local go_sem] Oper.semAt_some

theorem below_alloc (w : World) (o : Obj) : Below w.heap.size w (w.alloc o) := (Below.refl _ _).alloc (Nat.le_refl _) o
theorem below_of {w W w' : World} (h : Below w.heap.size w W) (k : Below W.heap.size W w') : Below w.heap.size w w' := h.trans (k.mono h.size)
theorem grown_of_below {w w' : World} (h : Below w.heap.size w w') : w.grownBy w' none := ⟨h.os, h.tape, h.output, h.size, fun k hk _ => h.block k hk⟩
theorem own_alloc {w : World} {base n size : Nat} {e : TypeId} {v : Value} {xs : List Value} (h : w.ownsRow base e size v n xs) (o : Obj) : (w.alloc o).ownsRow base e size v n xs :=
  h.kept (World.grownBy_alloc w o none) (by cases v.ownBlock <;> simp)
theorem own_below {w w' : World} {base n size : Nat} {e : TypeId} {v : Value} {xs : List Value} (h : w.ownsRow base e size v n xs) (hb : Below w.heap.size w w') : w'.ownsRow base e size v n xs :=
  h.kept (grown_of_below hb) (by cases v.ownBlock <;> simp)
theorem own_form {w : World} {B : Nat} {e : TypeId} {size n : Nat} {v : Value} {xs : List Value} (h : w.ownsRow B e size v n xs) : (v = .slice none 0 0 ∧ n = 0) ∨ ∃ g cap, v = .slice (some ⟨g, 0, none⟩) n cap ∧ g < w.heap.size := by
  rcases h.2 with h1 | ⟨g, cap, cur, rfl, hg, hh, _⟩
  · exact .inl h1
  · exact .inr ⟨g, cap, rfl, lt_of_block hh⟩
theorem own_slice {w : World} {B : Nat} {e : TypeId} {size n : Nat} {v : Value} {xs : List Value} (h : w.ownsRow B e size v n xs) : ∃ ad cap, v = .slice ad n cap := by
  rcases own_form h with ⟨h1, rfl⟩ | ⟨g, cap, h1, _⟩
  · exact ⟨_, _, h1⟩
  · exact ⟨_, _, h1⟩

/-- the numbers of those that are held -/
def nos (L : List Hx) : List Int := L.map (·.no)

set_option maxHeartbeats 1000000 in
theorem keys_any (m0 : Nat) (w : World) :
    Calls Try.prog 20 #[.map (some m0)] w fun e w' => e = .returned (.func (.func 24) #[] #[.pointer (some ⟨w.heap.size, 0, none⟩)]) ∧ w' = w.alloc (.cells #[.map (some m0)] 50) := by
  go_enter Try.func20, Try.ntmps20
  go_wp2
  go_ret
  exact ⟨rfl, rfl⟩

set_option maxRecDepth 100000 in
set_option maxHeartbeats 2000000 in
theorem keys1_in (n : Nat) (hn : 1 ≤ n) (l Bs m : Nat) (L : List Hx) (J : List Int → World → Prop) (W : World) (hJ : AbidesFrom W.heap.size J)
    (hY : ∀ (pre : List Int) (x : Int) (W1 : World), J pre W1 → pre.length < L.length → YieldAt Fence.wide (n - 1) Try.prog l #[encZ x] W1 fun e W' =>
      e = .returned (.bool true) ∧ J (pre ++ [x]) W' ∧ KeepsWalks W1 W')
    (hBs : W.cell? ⟨Bs, 0, none⟩ = some (.map (some m))) (hL : Lm W m L) (h0 : J [] W) :
    CallsIn Fence.wide n Try.prog 24 #[.func (.yield l) #[] #[], .pointer (some ⟨Bs, 0, none⟩)] W fun e W' => (∃ v, e = .returned v) ∧
      ∃ ys : List Int, ys.Perm (nos L) ∧ J ys W' := by
  refine callsIn_of_wp Try.func24 rfl trivial ?_ rfl
  simp only [Try.ntmps24, List.size_toArray, List.length_cons, List.length_nil, Nat.reduceAdd, Nat.reduceSub, Array.replicate_succ, Array.replicate_zero, List.push_toArray, List.append_toArray, List.nil_append, List.cons_append]
  obtain ⟨W1, hrng, hMi, hg, hsz⟩ := hL.range
  have HJ1 := hide (hJ [] W W1 none h0 hg (fun r e => by cases e))
  have HM1 := hide hMi
  have HJ := hide hJ
  have HY := hide hY
  clear hJ hY hMi hL h0 hg hsz
  gi_wp2_with fail
  gi_loopw [3] (fun _ wr => ∃ pre rest : List Hx, Hid ((pre ++ rest).Perm L) ∧ Hid (J (nos pre) wr) ∧ Hid (Mi wr m W.heap.size L rest)) (fun _ wr => wr.rangeLeft m W.heap.size)
  case atStart => exact ⟨[], L, .refl _, HJ1, HM1⟩
  case round =>
    clear HJ1 HM1 hBs hrng
    obtain ⟨pre, rest, HP, HJs, HMs⟩ := hrel
    rcases HMs.out.next 0 with ⟨hz, hrun⟩ | ⟨x, rest', W2, hpx, hrun, hM2, hent, hg2, hs2⟩
    · have hrun2 : ∀ ty, (Instr.next (.pointer (some ⟨W.heap.size, 0, none⟩)) false ty).run Try.prog wr = .ok (.tuple #[.bool false]) wr := fun _ => hrun
      clear hrun
      gi_wp2_with fail
      go_end0
      refine ⟨⟨_, rfl⟩, nos pre, ?_, HJs.out⟩
      have := HP.out
      rw [hz, List.append_nil] at this
      exact this.map _
    · have hrun2 : ∀ ty, (Instr.next (.pointer (some ⟨W.heap.size, 0, none⟩)) false ty).run Try.prog wr = .ok (.tuple #[.bool true, .int .i64 x.no, x.val]) W2 := fun _ => hrun
      clear hrun
      have HL : Hid (wr.rangeLeft m W.heap.size = rest.length) := HMs.out.left
      have hit : ∃ o : Obj, wr.heap[W.heap.size]? = some o ∧ o.isWalk = true := HMs.out.iter
      have HJ2 := hide (HJ.out (nos pre) wr W2 (some W.heap.size) HJs.out hg2 (fun r e => by cases e; exact ⟨Nat.le_refl _, hit⟩))
      have hlen : (nos pre).length < L.length := by
        have h1 := HP.out.length_eq
        have h2 := hpx.length_eq
        simp only [List.length_append, List.length_cons, nos, List.length_map] at h1 h2 ⊢
        omega
      have HP2 : Hid (((pre ++ [x]) ++ rest').Perm L) := by
        refine List.Perm.trans ?_ HP.out
        rw [List.append_assoc]
        exact (List.Perm.refl pre).append hpx.symm
      have HR2 : Hid (rest'.length < rest.length) := by
        have h2 := hpx.length_eq
        simp only [List.length_cons] at h2
        show rest'.length < rest.length
        omega
      obtain ⟨fn, tmps, assign, body, hy, hR⟩ := HY.out (nos pre) x.no W2 HJ2.out hlen
      have HR := hide hR
      have HM2 := hide hM2
      have eZ : encZ x.no = .int .i64 x.no := rfl
      clear hR hM2 hg2 hs2 hpx hit
      rw [eZ] at hy
      gi_wp2_with fail
      refine HR.out.mono ?_
      rintro e W3 ⟨rfl, hJ3, hk3⟩
      have HJ3 := hide hJ3
      have HM3 := hide (HM2.out.walks hk3)
      clear hJ3 hk3
      gi_wp2_with fail
      go_roundw
      case rel => exact ⟨pre ++ [x], rest', HP2, by unfold nos at HJ3 ⊢; rw [List.map_append]; exact HJ3, HM3⟩
      case measure => rw [HM3.out.left, HL.out]; exact HR2.out
/-- maps.Keys, as an iterator -/
theorem keys_gives (n : Nat) (hn : 1 ≤ n) (Bs m : Nat) (L : List Hx) (w : World) (hBl : Bs < w.heap.size) (hBs : w.cell? ⟨Bs, 0, none⟩ = some (.map (some m))) (hL : Lm w m L) :
    SeqGives Fence.wide n Try.prog 24 #[.pointer (some ⟨Bs, 0, none⟩)] encZ (fun ys => ys.Perm (nos L)) L.length w := fun l J W hW hJ hY h0 =>
  keys1_in n hn l Bs m L J W hJ hY ((hW.cell (p := ⟨Bs, 0, none⟩) hBl).trans hBs) (hL.below hW) h0
end Go.Proofs.Ytmkfhcdmcncgkaa
