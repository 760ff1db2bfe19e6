import Derived.Test.YtjpcghkdedldiaaLsRf
namespace Go.Proofs.Ytjpcghkdedldiaa
open Go.RowKit

/-- the document's table -/
structure Xt (w : World) (x : Nat) (T : Int) (ad : Option Addr) (ab cap : Nat) (L : List Lz) : Prop where
  blk : w.heap[x]? = some (.cells #[.int .i64 T, .slice ad L.length cap] 47 (0, 0))
  rs : Rs w ad ab 0 L
  hc : L.length ≤ cap
  ha : ad = none ∨ ad = some ⟨ab, 0, none⟩
section
variable {w w' : World} {x : Nat} {T : Int} {ad : Option Addr} {ab cap : Nat} {L : List Lz}
theorem Xt.lt (h : Xt w x T ad ab cap L) : x < w.heap.size := lt_of_block h.blk
theorem Xt.c0 (h : Xt w x T ad ab cap L) : w.cell? ⟨x, 0, none⟩ = some (.int .i64 T) := by simp [World.cell?, h.blk]
theorem Xt.c1 (h : Xt w x T ad ab cap L) : w.cell? ⟨x, 1, none⟩ = some (.slice ad L.length cap) := by simp [World.cell?, h.blk]
theorem Xt.below (h : Xt w x T ad ab cap L) (hb : Below w.heap.size w w') : Xt w' x T ad ab cap L := ⟨(hb.block _ h.lt).trans h.blk, h.rs.below hb, h.hc, h.ha⟩
theorem Xt.alloc (h : Xt w x T ad ab cap L) (o : Obj) : Xt (w.alloc o) x T ad ab cap L := h.below (below_alloc w o)
theorem Xt.drewN (h : Xt w x T ad ab cap L) (n : Nat) : Xt (w.drewN n) x T ad ab cap L := ⟨h.blk, h.rs.keep fun _ => rfl, h.hc, h.ha⟩
/-- leases that are read are not in a table's block -/
theorem rs_ne {y : Nat} {U : Int} {a : Option Addr} {n c : Nat} {w : World} {ad : Option Addr} {ab : Nat} {L : List Lz} (h : Rs w ad ab 0 L) (h0 : 0 < L.length) (hy : w.heap[y]? = some (.cells #[.int .i64 U, .slice a n c] 47 (0, 0))) : ab ≠ y := fun e => by
  have h2 := h.c 0 h0 1 (by decide)
  unfold World.cell? at h2
  rw [show w.heap[ab]? = _ from e ▸ hy] at h2
  have h3 : ((L[0]'h0).cs)[1]? = some (.int .i64 (L[0]'h0).bdg) := rfl
  rw [h3] at h2
  simp at h2
theorem rs_turn {y : Nat} {U : Int} {a : Option Addr} {n c : Nat} (h : Rs w ad ab 0 L) (hy : w.heap[y]? = some (.cells #[.int .i64 U, .slice a n c] 47 (0, 0))) (hg : w.grownBy w' (some y)) : Rs w' ad ab 0 L :=
  h.keep fun h0 => hg.block _ (h.lt h0) (fun e => rs_ne h h0 hy (by injection e))
/-- a map turns -/
theorem Xt.map {m : Nat} (h : Xt w x T ad ab cap L) (hm : ∃ es c, w.heap[m]? = some (.map es c)) (hg : w.grownBy w' (some m)) : Xt w' x T ad ab cap L :=
  ⟨(hg.block _ h.lt (fun e => by
    injection e with e
    obtain ⟨es, c, h1⟩ := hm
    rw [← e, h.blk] at h1
    cases h1)).trans h.blk, rs_map h.rs hm hg, h.hc, h.ha⟩
/-- another's block turns -/
theorem Xt.other {y : Nat} {U : Int} {a : Option Addr} {n c : Nat} (h : Xt w x T ad ab cap L) (hy : w.heap[y]? = some (.cells #[.int .i64 U, .slice a n c] 47 (0, 0))) (hne : x ≠ y) (hg : w.grownBy w' (some y)) : Xt w' x T ad ab cap L :=
  ⟨(hg.block _ h.lt (fun e => hne (by injection e))).trans h.blk, rs_turn h.rs hy hg, h.hc, h.ha⟩
/-- a program's table, when a block of the document's turns -/
theorem Tb.xturn {b m y : Nat} {U : Int} {a : Option Addr} {n c : Nat} (h : Tb w b m T L) (hy : w.heap[y]? = some (.cells #[.int .i64 U, .slice a n c] 47 (0, 0))) (hg : w.grownBy w' (some y)) : Tb w' b m T L := by
  refine h.keep (hg.block b h.lt (fun e => ?_)) (hg.block m h.map.lt (fun e => ?_))
  · injection e with e
    have h1 := h.blk
    rw [e, hy] at h1
    cases h1
  · injection e with e
    obtain ⟨es, c, h1⟩ := h.map.block
    rw [e, hy] at h1
    cases h1
/-- its list is set -/
theorem Xt.set {M : List Lz} {ad' : Option Addr} {ab' cap' : Nat} {W : World} (h : Xt w x T ad ab cap L) (hb : Below w.heap.size w W) (hr : Rs W ad' ab' 0 M) (hha : ad' = none ∨ ad' = some ⟨ab', 0, none⟩) (hhc : M.length ≤ cap') : Xt (W.setCell ⟨x, 1, none⟩ (.slice ad' M.length cap')) x T ad' ab' cap' M ∧ w.grownBy (W.setCell ⟨x, 1, none⟩ (.slice ad' M.length cap')) (some x) := by
  have h1 := (h.below hb).blk
  refine ⟨⟨?_, ?_, hhc, hha⟩, grown_pre hb (grown_cell W x 1 _)⟩
  · show (W.heap.modify x _)[x]? = _
    rw [Array.getElem?_modify, if_pos rfl, h1]
    rfl
  · exact rs_turn hr h1 (grown_cell W x 1 _)
end

theorem xnew_no {T : Int} (h : ¬ (1 ≤ T ∧ T ≤ 256)) (w : World) : Calls Try.prog 10 #[.int .i64 T] w fun e w' => e = .returned (.tuple #[.pointer none, .int .i64 120]) ∧ w' = w := by
  by_cases h1 : T < 1
  · have b1 : decide (T < 1) = true := by simpa using h1
    clear h1
    go_enter Try.func10, Try.ntmps10
    go_wp2
    go_ret2
    exact ⟨rfl, rfl⟩
  · have b1 : decide (T < 1) = false := by simpa using h1
    have b2 : decide (256 < T) = true := by simp; omega
    clear h1
    go_enter Try.func10, Try.ntmps10
    go_wp2
    go_ret2
    exact ⟨rfl, rfl⟩
theorem xnew_yes {T : Int} (h1 : 1 ≤ T) (h2 : T ≤ 256) (w : World) : Calls Try.prog 10 #[.int .i64 T] w fun e w' => e = .returned (.tuple #[.pointer (some ⟨w.heap.size, 0, none⟩), .int .i64 0]) ∧ Xt w' w.heap.size T none 0 0 [] ∧ Below w.heap.size w w' := by
  have b1 : decide (T < 1) = false := by simp; omega
  have b2 : decide (256 < T) = false := by simp; omega
  clear h1 h2
  go_enter Try.func10, Try.ntmps10
  go_wp2
  go_ret2
  exact ⟨rfl, ⟨heap_alloc_new w _, ⟨fun h => absurd h (by decide), fun i h => absurd h (by simp)⟩, Nat.le_refl _, .inl rfl⟩, below_alloc w _⟩

set_option maxHeartbeats 1000000 in
theorem xcopy_any {w : World} {x : Nat} {T : Int} {ad : Option Addr} {ab cap : Nat} {L : List Lz} (h : Xt w x T ad ab cap L) : Calls Try.prog 15 #[.pointer (some ⟨x, 0, none⟩)] w fun e w' => e = .returned (.pointer (some ⟨w.heap.size, 0, none⟩)) ∧ Xt w' w.heap.size T ad ab cap L ∧ Below w.heap.size w w' := by
  have c0 := h.c0
  have c1 := h.c1
  have HX := hide h
  clear h
  go_enter Try.func15, Try.ntmps15
  go_wp2
  go_ret
  exact ⟨rfl, ⟨heap_alloc_new w _, HX.out.rs.below (below_alloc w _), HX.out.hc, HX.out.ha⟩, below_alloc w _⟩

theorem fnd_take {L : List Lz} {g : Int} {i : Nat} (hi : i < L.length) (h : has g (L.take i) = false) (e : (L[i]).bdg = g) : fnd g L = L[i] ∧ has g L = true := by
  refine ⟨?_, has_iff.2 ⟨L[i], List.getElem_mem hi, e⟩⟩
  induction L generalizing i with
  | nil => simp at hi
  | cons y l ih =>
    cases i with
    | zero =>
      unfold fnd
      exact if_pos e
    | succ i =>
      have hy : y.bdg ≠ g := has_false.1 h y (by simp)
      unfold fnd
      rw [if_neg hy]
      exact ih (by simpa using hi) (has_false.2 fun z hz => has_false.1 h z (by simp [hz])) (by simpa using e)

set_option maxHeartbeats 2000000 in
theorem xfind_any {w : World} {x : Nat} {T : Int} {ad : Option Addr} {ab cap : Nat} {L : List Lz} (h : Xt w x T ad ab cap L) (hl : L.length ≤ 12) (g : Int) : Calls Try.prog 29 #[.pointer (some ⟨x, 0, none⟩), .int .i64 g] w fun e w' => e = .returned (.tuple #[(fnd g L).val, .bool (has g L)]) ∧ Below w.heap.size w w' := by
  have HX := hide (h.alloc lz0.obj)
  have hlt := h.lt
  clear h
  go_enter Try.func29, Try.ntmps29
  go_wp2_with fail
  go_loopw [6] (fun s wr => ∃ (i : Nat), i ≤ L.length ∧ s = .int .i64 (i : Int) ∧ Hid (wr = w.alloc lz0.obj) ∧ Hid (has g (L.take i) = false)) (fun s _ => L.length - (intOf s).toNat)
  case atStart => exact ⟨0, Nat.zero_le _, rfl, rfl, rfl⟩
  case round =>
    obtain ⟨i, hi, rfl, HW, HH⟩ := hrel
    have hw := HW.out
    subst hw
    clear HW
    have c1 := HX.out.c1
    by_cases hii : i < L.length
    · have hik : (i : Int) < (L.length : Int) := by omega
      have hat := HX.out.rs.at_ (by omega)
      subst hat
      obtain ⟨q0, q1, q2, q3, q4⟩ := HX.out.rs.eight0 hii
      by_cases hg : (L[i]).bdg = g
      · have bq : ((L[i]).bdg == g) = true := by simpa using hg
        have HF := hide (fnd_take hii HH.out hg)
        generalize L[i] = y at *
        clear hg
        go_wp2_with fail
        obtain ⟨e1, e2⟩ := HF.out
        exact bodyPost_ret (v := .tuple #[y.val, .bool true]) (by simp [results, Try.results29, go_sem]) rfl ⟨by rw [e1, e2], below_alloc w _⟩
      · have bq : ((L[i]).bdg == g) = false := by simpa using hg
        have HH2 : Hid (has g (L.take (i + 1)) = false) := by
          show _ = _
          rw [List.take_succ_eq_append_getElem hii]
          unfold has
          rw [List.any_append, List.any_cons, List.any_nil, Bool.or_false, bq, Bool.or_false]
          exact HH.out
        generalize L[i] = y at *
        clear hg
        go_wp2_with fail
        go_roundw
        case rel => exact ⟨i + 1, by omega, by go_num, trivial, HH2⟩
        case measure => simp only [intOf]; omega
    · have hik : ¬ (i : Int) < (L.length : Int) := by omega
      have hh : has g L = false := by have := HH.out; rwa [List.take_of_length_le (by omega)] at this
      go_wp2_with fail
      exact bodyPost_ret (v := .tuple #[lz0.val, .bool false]) (by simp [results, Try.results29, go_sem, lz0]) rfl ⟨by rw [fnd_none hh], below_alloc w _⟩

theorem del_take {L : List Lz} {i : Nat} (hi : i < L.length) (g : Int) : del g (L.take (i + 1)) = if (L[i]).bdg = g then del g (L.take i) else del g (L.take i) ++ [L[i]] := by
  rw [List.take_succ_eq_append_getElem hi]
  unfold del
  rw [List.filter_append]
  split
  · rename_i h; simp [h]
  · rename_i h; simp [h]
theorem del_len {L : List Lz} {g : Int} : (del g L).length = L.length ↔ has g L = false := by
  constructor
  · intro h
    have h1 : del g L = L := (List.filter_sublist).eq_of_length h
    refine has_false.2 fun x hx => ?_
    rw [← h1] at hx
    exact (mem_del.1 hx).2
  · intro h
    rw [del_none (has_false.1 h)]
theorem del_len_le (L : List Lz) (g : Int) : (del g L).length ≤ L.length := List.length_filter_le _ _

set_option maxHeartbeats 2000000 in
theorem xdrop_any {w : World} {x : Nat} {T : Int} {ad : Option Addr} {ab cap : Nat} {L : List Lz} (h : Xt w x T ad ab cap L) (hl : L.length ≤ 12) (g : Int) : Calls Try.prog 26 #[.pointer (some ⟨x, 0, none⟩), .int .i64 g] w fun e w' => e = .returned (.int .i64 (naE g L)) ∧ (∃ ad' ab' cap', Xt w' x T ad' ab' cap' (del g L)) ∧ w.grownBy w' (some x) := by
  obtain ⟨i0, hi0, hz0, hz1, hz2⟩ := info_parts Try.infoL
  have HX := hide h
  have hlt := h.lt
  have HM0 := hide (World.ownsRow_made (base := w.heap.size) (e := 54) (size := 5) w #[] 0 (Nat.le_refl _) (Nat.zero_le _) rfl)
  have HB0 := hide (below_alloc w (.cells #[] 54))
  clear h
  go_enter Try.func26, Try.ntmps26
  go_wp2_with fail
  go_loopw [5, 6] (fun s1 s wr => ∃ (i : Nat) (a : Option Addr) (c : Nat), i ≤ L.length ∧ s1 = .slice a (del g (L.take i)).length c ∧ s = .int .i64 (i : Int) ∧ Hid (Below w.heap.size w wr) ∧ Hid (wr.ownsRow w.heap.size 54 5 (.slice a (del g (L.take i)).length c) (del g (L.take i)).length (lcs (del g (L.take i))))) (fun _ s _ => L.length - (intOf s).toNat)
  case atStart => exact ⟨0, some ⟨w.heap.size, 0, none⟩, 0, Nat.zero_le _, rfl, rfl, HB0, HM0⟩
  case round =>
    clear HB0 HM0
    obtain ⟨i, a, c, hi, rfl, rfl, HB, HM⟩ := hrel
    have c1 := (HX.out.below HB.out).c1
    by_cases hii : i < L.length
    · have hik : (i : Int) < (L.length : Int) := by omega
      have hat := HX.out.rs.at_ (by omega)
      subst hat
      obtain ⟨q0, q1, q2, q3, q4⟩ := (HX.out.rs.below HB.out).eight0 hii
      have HD := hide (del_take hii g)
      have hdl : (del g (L.take i)).length ≤ 12 := by have := del_len_le (L.take i) g; rw [List.length_take] at this; omega
      by_cases hg : (L[i]).bdg = g
      · have bq : ((L[i]).bdg != g) = false := by simpa using hg
        have HD2 : Hid (del g (L.take (i + 1)) = del g (L.take i)) := by show _ = _; rw [HD.out, if_pos hg]
        generalize L[i] = y at *
        clear hg HD
        go_wp2_with fail
        go_roundw
        case rel => exact ⟨i + 1, a, c, by omega, by rw [HD2.out], by go_num, HB, by rw [HD2.out]; exact HM⟩
        case measure => simp only [intOf]; omega
      · have bq : ((L[i]).bdg != g) = true := by simpa using hg
        have HD2 : Hid (del g (L.take (i + 1)) = del g (L.take i) ++ [L[i]]) := by show _ = _; rw [HD.out, if_neg hg]
        generalize L[i] = y at *
        generalize del g (L.take i) = M at *
        have HMA := hide (own_alloc HM.out y.obj)
        have hsz := HB.out.size
        clear hg HD
        go_wp2_with (at_builtin; refine wpList_append_lies _ rfl _ _ 42 rfl w.heap.size 54 i0 lz0.val 5 40 Try.underlying42 hi0 hz0 hz1 hz2 rfl (by decide) (.slice a M.length c) M.length (lcs M) rfl HMA.out ⟨wr.heap.size, 0, none⟩ 1 1 y.cs rfl rfl (World.news_of_block (heap_alloc_new wr y.obj)) (lcs_one_cell [y]) (by decide) (by unfold maxLen; omega) (by omega) (by simp; omega) (wr.heap.size + 1) (by simp) ?_; intro g5 cap5 w5 hown5 hgrow5 hg5 _; clear hg5; (have HO5 := hide hown5); (have HG5 := hide hgrow5); clear hown5 hgrow5)
        have hb5 : Below w.heap.size w w5 := (HB.out.alloc hsz y.obj).grown HG5.out (by simp; omega) (fun k e => (HMA.out.lt k e).1)
        go_roundw
        case rel => exact ⟨i + 1, some ⟨g5, 0, none⟩, cap5, by omega, by rw [HD2.out, List.length_append]; rfl, by go_num, hb5, by rw [HD2.out, lcs_snoc, List.length_append]; exact HO5⟩
        case measure => simp only [intOf]; omega
    · have hik : ¬ (i : Int) < (L.length : Int) := by omega
      have hti : L.take i = L := List.take_of_length_le (by omega)
      rw [hti] at HM ⊢
      have hdl := del_len_le L g
      by_cases hh : has g L = false
      · have HE : Hid (naE g L = 122) := by show _ = _; unfold naE; rw [hh]; rfl
        have hle : (del g L).length = L.length := del_len.2 hh
        have HDL : Hid (del g L = L) := del_none (has_false.1 hh)
        have bq : (((del g L).length : Int) == (L.length : Int)) = true := by rw [hle]; simp
        clear hh hle
        go_wp2_with fail
        go_ret
        rw [HE.out]
        refine ⟨rfl, ⟨ad, ab, cap, ?_⟩, grown_any HB.out _⟩
        rw [HDL.out]
        exact HX.out.below HB.out
      · have HE : Hid (naE g L = 0) := by show _ = _; unfold naE; rw [if_pos (by simpa using hh)]
        have hle : (del g L).length ≠ L.length := fun e => hh (del_len.1 e)
        have bq : (((del g L).length : Int) == (L.length : Int)) = false := by rw [beq_eq_false_iff_ne]; omega
        have bq2 : ((del g L).length == L.length) = false := by rw [beq_eq_false_iff_ne]; exact hle
        obtain ⟨ab', hR, hRa, hRc⟩ := Rs.own HM.out
        have HS := hide (HX.out.set (cap' := c) HB.out hR hRa hRc)
        have hfz : wr.frozen? ⟨x, 1, none⟩ = false := by have := (HX.out.below HB.out).blk; simp [World.frozen?, this]
        clear hh hle hR hRa hRc
        go_wp2_with fail
        go_ret
        rw [HE.out]
        exact ⟨rfl, ⟨a, ab', c, HS.out.1⟩, HS.out.2⟩
end Go.Proofs.Ytjpcghkdedldiaa
