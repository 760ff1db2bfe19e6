import Derived.Test.YtjpcghkdedldiaaLsF
namespace Go.Proofs.Ytjpcghkdedldiaa
open Go.RowKit Go.Shelf

set_option maxHeartbeats 2000000 in
theorem insNil (W : World) (ad : Option Addr) (cap : Nat) (fv : Value) : Calls Try.prog 45 #[.slice ad 0 cap, .int .i64 0, .int .i64 0, fv] W fun e w' => e = .returned (.tuple #[]) ∧ w' = W := by
  go_enter Try.func45, Try.ntmps45
  go_wp2
  refine wp_loop_rounds 1 ?_
  rw [rounds_succ]
  go_wp2
  go_end0
  exact ⟨rfl, rfl⟩
set_option maxHeartbeats 2000000 in
theorem pdqNil (W : World) (ad : Option Addr) (cap : Nat) (lim : Int) (fv : Value) : Calls Try.prog 42 #[.slice ad 0 cap, .int .i64 0, .int .i64 0, .int .i64 lim, fv] W fun e w' => e = .returned (.tuple #[]) ∧ w' = W := by
  go_enter Try.func42, Try.ntmps42
  go_wp2
  refine wp_loop_rounds 1 ?_
  rw [rounds_succ]
  go_wp2_with (go_at_call 45; refine (insNil _ _ _ _).mono ?_; rintro e w' ⟨rfl, rfl⟩)
  (try simp only [Exit.inBlock, Exit.then]); refine bodyPost_ret (results_none rfl _ _ _) rfl ?_
  exact ⟨rfl, rfl⟩
set_option maxHeartbeats 2000000 in
theorem sortNil (W : World) (ad : Option Addr) (cap : Nat) (fv : Value) : Calls Try.prog 38 #[.slice ad 0 cap, fv] W fun e w' => e = .returned (.tuple #[]) ∧ w' = W := by
  have hl : ∀ W, Calls Try.prog 43 #[.int .u64 0] W fun e w' => e = .returned (.int .i64 (Lib.bitLen 0 : Nat)) ∧ w' = W := fun W => Try.bits_Len 0 W (by omega) (by omega)
  go_enter Try.func38, Try.ntmps38
  go_wp2_with (first | (go_at_call 43; refine (hl _).mono ?_; rintro e w' ⟨rfl, rfl⟩) | (go_at_call 42; refine (pdqNil _ _ _ _ _).mono ?_; rintro e w' ⟨rfl, rfl⟩))
  go_end0
  exact ⟨rfl, rfl⟩

set_option maxHeartbeats 1000000 in
theorem collect_any {w : World} {Bs m : Nat} {L : List Lz} (hBs : w.cell? ⟨Bs, 0, none⟩ = some (.map (some m))) (hL : Lm w m L) (hl : L.length ≤ 1000) :
    Calls Try.prog 37 #[.func (.func 39) #[] #[.pointer (some ⟨Bs, 0, none⟩)]] w fun e w' =>
      ∃ v ys, e = .returned v ∧ ys.Perm L ∧ w'.ownsRow w.heap.size 54 5 v ys.length (lcs ys) ∧ Below w.heap.size w w' := by
  have hc := appendSeq_any hBs hL hl
  go_enter Try.func37, Try.ntmps37
  clear hBs hL
  go_wp2_with (go_at_call 41; refine hc.mono ?_; rintro e w' ⟨v, ys, rfl, hp, ho, hb⟩; (obtain ⟨ad, cap, hv⟩ := own_slice ho); subst hv)
  go_ret
  exact ⟨_, ys, rfl, hp, ho, hb⟩

set_option maxHeartbeats 1000000 in
/-- slices.SortedFunc of a map's values -/
theorem sorted_any {w : World} {Bs m : Nat} {L : List Lz} (hBs : w.cell? ⟨Bs, 0, none⟩ = some (.map (some m))) (hL : Lm w m L) (hl : L.length ≤ 12) :
    Calls Try.prog 33 #[.func (.func 39) #[] #[.pointer (some ⟨Bs, 0, none⟩)], .func (.func 35) #[] #[]] w fun e w' =>
      ∃ ad g cap, e = .returned (.slice ad L.length cap) ∧ Rs w' ad g 0 L ∧ (0 < L.length → w.heap.size ≤ g) ∧ Below w.heap.size w w' := by
  have hc := collect_any hBs hL (by omega)
  have HR := hide hL.1
  by_cases hn : L = []
  · subst hn
    go_enter Try.func33, Try.ntmps33
    clear hBs hL hl
    go_wp2_with (first
      | (go_at_call 37; refine hc.mono ?_; rintro e w1 ⟨v, ys, rfl, hp, ho, hb⟩; (have hy := hp.eq_nil); subst hy; (obtain ⟨ad, cap, hv⟩ := own_slice ho); subst hv; (have HB := hide hb); clear hb ho hp hc)
      | (go_at_call 38; refine (sortNil _ _ _ _).mono ?_; rintro e w2 ⟨rfl, rfl⟩))
    go_ret
    exact ⟨ad, 0, cap, rfl, ⟨fun h => absurd h (by decide), fun i hi => absurd hi (by simp)⟩, fun h => absurd h (by decide), HB.out⟩
  · have HN := hide hn
    have HLL := hide hl
    go_enter Try.func33, Try.ntmps33
    clear hBs hL hl hn
    go_wp2_with (first
      | (go_at_call 37; refine hc.mono ?_; rintro e w1 ⟨v, ys, rfl, hp, ho, hb⟩; (have HS := hide (sortFunc_any ho hp HR.out HLL.out HN.out)); (have HB := hide hb); (obtain ⟨ad, cap, hv⟩ := own_slice ho); subst hv; clear hb ho hp hc)
      | (go_at_call 38; refine HS.out.mono ?_; rintro e w2 ⟨rfl, g, cap2, hv, hg, hR, hgr⟩; (have HV := hide hv); (have HG := hide hg); (have HR2 := hide hR); (have HGR := hide hgr); clear hv hg hR hgr))
    go_ret
    refine ⟨_, g, cap2, congrArg Ending.returned HV.out, HR2.out, fun _ => HG.out, HB.out.grown HGR.out HB.out.size (fun k e => by cases e; exact HG.out)⟩
end Go.Proofs.Ytjpcghkdedldiaa
