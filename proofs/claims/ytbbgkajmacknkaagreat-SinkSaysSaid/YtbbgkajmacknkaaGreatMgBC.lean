import Derived.Test.YtbbgkajmacknkaaGreatMgAU
import Derived.Test.YtbbgkajmacknkaaGreatMgAW
import Derived.Test.YtbbgkajmacknkaaGreatMgBB
import Derived.BigQuiet

section
namespace Go.Proofs.YtbbgkajmacknkaaGreat.K
open Go.RowKit Go.MapKept Go.Shelf
open Wr (Ms L)
set_option maxRecDepth 20000

/-- a sink that the law made, beside its two boxes -/
structure Dq (w : World) (b : Nat) (M O : Obj) (s : St) (T : List Ev) (F : Nat → Prop) (wr : World) : Prop where
  one : Sk wr b s T F
  lo : ∀ k, F k → w.heap.size + 2 ≤ k
  low : Below w.heap.size w wr
  m4 : wr.heap[w.heap.size]? = some M
  a5 : wr.heap[w.heap.size + 1]? = some O
section
variable {w wr w2 : World} {b : Nat} {M O : Obj} {s s' : St} {T T' : List Ev} {F : Nat → Prop}
theorem Dq.step (h : Dq w b M O s T F wr) (hg : Gp F b s' T' wr w2) : ∃ F', Dq w b M O s' T' F' w2 := by
  obtain ⟨F', h1, h2, h3⟩ := hg
  have hsz := h.low.size
  have hm := lt_blk h.m4
  have ha := lt_blk h.a5
  refine ⟨F', h1, fun k hk => ?_, ⟨h2.os.trans h.low.os, h2.tape.trans h.low.tape, h2.output.trans h.low.output, Nat.le_trans hsz h2.size, fun k hk => (h2.block k (by omega) (fun hf => by have := h.lo k hf; omega)).trans (h.low.block k hk)⟩, (h2.block _ hm (fun hf => by have := h.lo _ hf; omega)).trans h.m4, (h2.block _ ha (fun hf => by have := h.lo _ hf; omega)).trans h.a5⟩
  rcases h3 k hk with h4 | h4
  · exact h.lo k h4
  · omega
theorem Dq.below (h : Dq w b M O s T F wr) (hb : Below wr.heap.size wr w2) : Dq w b M O s T F w2 := ⟨h.one.below hb, h.lo, h.low.trans (hb.mono h.low.size), (hb.block _ (lt_blk h.m4)).trans h.m4, (hb.block _ (lt_blk h.a5)).trans h.a5⟩
theorem Dq.drew (h : Dq w b M O s T F wr) : Dq w b M O s T F wr.drew := ⟨h.one.keep fun _ _ => rfl, h.lo, h.low.drew, h.m4, h.a5⟩
end
theorem fourAt {w : World} {ad : Option Addr} {ab ao : Nat} {L : List Oc} (h : Or w ad ab ao L) {i : Nat} (hi : i < L.length) : w.cell? ⟨ab, ao + i * 9 + 2, none⟩ = some (.int .i64 (L[i]).job) ∧ w.cell? ⟨ab, ao + i * 9 + 3, none⟩ = some (.int .i64 (L[i]).bdg) ∧ w.cell? ⟨ab, ao + i * 9 + 4, none⟩ = some (.int .i64 (L[i]).idx) ∧ w.cell? ⟨ab, ao + i * 9 + 5, none⟩ = some (.string (L[i]).tx) := by
  obtain ⟨_, _, c2, c3, c4, c5, _⟩ := h.nine hi
  exact ⟨c2, c3, c4, c5⟩
theorem artAt {w : World} {ad : Option Addr} {g : Nat} {Y : List Az} (h : Rs w ad g 0 Y) {i : Nat} (hi : i < Y.length) : w.cell? ⟨g, i * 3, none⟩ = some (.int .i64 (Y[i]).job) ∧ w.cell? ⟨g, i * 3 + 1, none⟩ = some (.int .i64 (Y[i]).bdg) ∧ w.cell? ⟨g, i * 3 + 2, none⟩ = some (.slice (Y[i]).ad (Y[i]).pcs.length (Y[i]).cap) := by
  have h0 := h.c i hi 0 (by decide)
  have h1 := h.c i hi 1 (by decide)
  have h2 := h.c i hi 2 (by decide)
  rw [Nat.zero_add] at h0 h1 h2
  exact ⟨h0, h1, h2⟩
theorem guardAd (op : BinOp) (x y : Operand) (xs ys : Array Value) (w : World) : (eqGuard op 29 x y (.agg xs) (.agg ys)).run Tryz.prog w = .ok () w := run_eqGuard_agg w op _ x y xs ys (by kernel_rfl)
theorem neqAd (a b : Int) (w : World) : (binOp .neq 29 (.agg #[.int .i64 a, .int .i64 b]) (.agg #[.int .i64 a, .int .i64 b])).run Tryz.prog w = .ok (.bool false) w := by
  have u3 := Tryz.underlying3
  have a3 := Tryz.isAgg3
  have z3 := Tryz.sizeOf3
  have hS : Tryz.prog.underlying 29 = some (.struct (Tryz.prog.fieldsOf 29)) := by kernel_rfl
  have hp : Tryz.prog.stoodInHeld 29 = false := by kernel_rfl
  have hE : (Op.equalIn 10000 29 (.agg #[.int .i64 a, .int .i64 b]) (.agg #[.int .i64 a, .int .i64 b])).run Tryz.prog w = .ok true w := by
    rw [show (10000 : Nat) = 9999 + 1 from rfl, run_equalIn_agg w 9999 29 _ _ hS hp]
    simp only [Program.fieldsOf, Tryz.underlying29]
    go_simp
  rw [run_neq_struct, hE]
  rfl
theorem enc_dec {m : Ms} (hrb : m.rb < 18446744073709551616) (hc : Wr.check m = 0) {lim : Int → L → Nat} (hl : Wr.Lim lim) : Wr.decode lim (encB m) = (m, 0) := by
  unfold encB
  rw [if_pos hc]
  have h1 := Wr.bytes_len hc
  exact Wr.decode_there hl hrb hc (by simpa [ByteArray.size] using h1) (by simp)
theorem put_none : isPut ⟨#[]⟩ = false := by kernel_rfl
set_option maxHeartbeats 4000000 in
theorem sinkSays_walk {w : World} {ad : Option Addr} {cap ab ao : Nat} {L : List Oc} (hO : Or w ad ab ao L) (hl : L.length ≤ 1599289640356) (m : Ms) (hrb : m.rb < 18446744073709551616) (node life : Int) :
    Calls Tryz.prog 3 #[.slice ad L.length cap, .agg (msgC m), .agg #[.int .i64 node, .int .i64 life]] w fun e w' => e = .returned (.bool true) ∧ Below w.heap.size w w' := by
  have HO := hide hO
  have HEn : Hid (∀ V, Calls Tryz.prog 8 #[.agg (msgC m)] V fun e w' => e = .returned (.tuple #[.string (encB m), .int .i64 (Wr.check m : Int)]) ∧ Below V.heap.size V w') := hide fun V => rencode_any m hrb V
  have HRb := hide hrb
  obtain ⟨mm, hmm⟩ : ∃ mm, mm = m := ⟨_, rfl⟩
  have HM := hide hmm
  clear hO hrb
  obtain ⟨k, se, nu, jo, ba, ix, co, rc, rb, tx, pr⟩ := m
  rw [show msgC (⟨k, se, nu, jo, ba, ix, co, rc, rb, tx, pr⟩ : Ms) = #[.int .i64 k, .int .i64 se, .int .i64 nu, .int .i64 jo, .int .i64 ba, .int .i64 ix, .int .i64 co, .int .i64 rc, .int .u64 (rb : Int), .string tx, .string pr] from rfl] at HEn ⊢
  rw [← hmm] at HEn
  clear hmm
  have hs0 := World.size_alloc w (.cells #[.int .i64 k, .int .i64 se, .int .i64 nu, .int .i64 jo, .int .i64 ba, .int .i64 ix, .int .i64 co, .int .i64 rc, .int .u64 (rb : Int), .string tx, .string pr] 27)
  have hn0 := heap_alloc_new w (.cells #[.int .i64 k, .int .i64 se, .int .i64 nu, .int .i64 jo, .int .i64 ba, .int .i64 ix, .int .i64 co, .int .i64 rc, .int .u64 (rb : Int), .string tx, .string pr] 27)
  have hb1 := below_alloc (w.alloc (.cells #[.int .i64 k, .int .i64 se, .int .i64 nu, .int .i64 jo, .int .i64 ba, .int .i64 ix, .int .i64 co, .int .i64 rc, .int .u64 (rb : Int), .string tx, .string pr] 27)) (.cells #[.int .i64 node, .int .i64 life] 29)
  have hn1 := heap_alloc_new (w.alloc (.cells #[.int .i64 k, .int .i64 se, .int .i64 nu, .int .i64 jo, .int .i64 ba, .int .i64 ix, .int .i64 co, .int .i64 rc, .int .u64 (rb : Int), .string tx, .string pr] 27)) (.cells #[.int .i64 node, .int .i64 life] 29)
  rw [hs0] at hn1
  have HBB : Hid (Below w.heap.size w ((w.alloc (.cells #[.int .i64 k, .int .i64 se, .int .i64 nu, .int .i64 jo, .int .i64 ba, .int .i64 ix, .int .i64 co, .int .i64 rc, .int .u64 (rb : Int), .string tx, .string pr] 27)).alloc (.cells #[.int .i64 node, .int .i64 life] 29))) := hide (((Below.refl _ w).alloc (Nat.le_refl _) _).alloc (by omega) _)
  have HM4 := hide ((hb1.block _ (by omega)).trans hn0)
  have HA5 := hide hn1
  have hsW : ((w.alloc (.cells #[.int .i64 k, .int .i64 se, .int .i64 nu, .int .i64 jo, .int .i64 ba, .int .i64 ix, .int .i64 co, .int .i64 rc, .int .u64 (rb : Int), .string tx, .string pr] 27)).alloc (.cells #[.int .i64 node, .int .i64 life] 29)).heap.size = w.heap.size + 2 := by rw [World.size_alloc, hs0]
  have hptr : ∀ (g : Nat) (w1 : World), (binOp .eql 30 (.pointer (some ⟨g, 0, none⟩)) (.pointer none)).run Tryz.prog w1 = .ok (.bool false) w1 := fun _ _ => by kernel_rfl
  clear hn0 hb1 hn1 hs0
  go_enter Tryz.func3, Tryz.ntmps3
  go_wp2_with fail
  generalize (w.alloc _).alloc _ = W at *
  refine (new_st W).mono ?_
  rintro e w0 ⟨b, F0, rfl, hS0, hB0, hL0⟩
  have hD0 : Dq w b (.cells #[.int .i64 k, .int .i64 se, .int .i64 nu, .int .i64 jo, .int .i64 ba, .int .i64 ix, .int .i64 co, .int .i64 rc, .int .u64 (rb : Int), .string tx, .string pr] 27) (.cells #[.int .i64 node, .int .i64 life] 29) st0 [] F0 w0 := ⟨hS0, fun q hq => by have := hL0 q hq; omega, HBB.out.trans (hB0.mono (by omega)), (hB0.block _ (by omega)).trans HM4.out, (hB0.block _ (by omega)).trans HA5.out⟩
  have HD0 := hide hD0
  clear hS0 hB0 hL0 hD0 HBB HM4 HA5 hsW
  go_wp2_with fail
  refine (awake_any w0).mono ?_
  rintro e w2 ⟨rfl, hb2⟩
  have HD2 := hide (HD0.out.below hb2)
  clear hb2 HD0
  go_wp2_with fail
  clear hptr
  go_loopw [8] (fun t8 wr => ∃ (i : Nat) (s : St) (T : List Ev) (F : Nat → Prop), t8 = .int .i64 (i : Int) ∧ i ≤ L.length ∧ Hid (Dq w b (.cells #[.int .i64 k, .int .i64 se, .int .i64 nu, .int .i64 jo, .int .i64 ba, .int .i64 ix, .int .i64 co, .int .i64 rc, .int .u64 (rb : Int), .string tx, .string pr] 27) (.cells #[.int .i64 node, .int .i64 life] 29) s T F wr) ∧ Hid (T.length ≤ i)) (fun t8 _ => L.length - (intOf t8).toNat)
  case atStart => exact ⟨0, st0, [], F0, rfl, Nat.zero_le _, HD2, hide (Nat.le_refl _)⟩
  case round =>
    clear HD2
    obtain ⟨i, s, T, F, rfl, hi, HR, HT⟩ := hrel
    by_cases hil : i < L.length
    · have hab : ab < w.heap.size := HO.out.lt (by omega)
      have had := HO.out.at_ (by omega)
      subst had
      have HS0 := hide (fourAt (HO.out.keep (w' := wr.drew) fun _ => HR.out.low.block ab hab) hil)
      have hT : T.length ≤ 1600000000000 := by have := HT.out; omega
      have HC := hide (HR.out.drew.one.put hT (L[i]).job (L[i]).bdg (L[i]).idx (L[i]).tx)
      have HN : Hid ((news s (L[i]).job (L[i]).bdg (L[i]).idx (L[i]).tx).length ≤ 1) := hide (by unfold news; split <;> simp)
      have HKeep : Hid (∀ V1, Gp F b (nxt s (L[i]).job (L[i]).bdg (L[i]).idx (L[i]).tx) (T ++ news s (L[i]).job (L[i]).bdg (L[i]).idx (L[i]).tx) wr.drew V1 → V1.cell? ⟨ab, ao + i * 9 + 2, none⟩ = some (.int .i64 (L[i]).job) ∧ V1.cell? ⟨ab, ao + i * 9 + 3, none⟩ = some (.int .i64 (L[i]).bdg) ∧ V1.cell? ⟨ab, ao + i * 9 + 4, none⟩ = some (.int .i64 (L[i]).idx) ∧ V1.cell? ⟨ab, ao + i * 9 + 5, none⟩ = some (.string (L[i]).tx)) := hide fun V1 hg => by
        obtain ⟨_, hd⟩ := HR.out.drew.step hg
        exact fourAt (HO.out.keep (w' := V1) fun _ => hd.low.block ab hab) hil
      clear hT hab
      generalize (L[i]).job = job at *
      generalize (L[i]).bdg = bdg at *
      generalize (L[i]).idx = idx at *
      generalize (L[i]).tx = tt at *
      generalize ans s job bdg idx tt = pn at HC
      generalize adm s job bdg idx tt = pa at HC
      generalize pe s job bdg idx tt = pq at HC
      have hii : (i : Int) < (L.length : Int) := by omega
      go_upto_region 7 with fail
      refine wp_region_held_drew (S := fun w' => w'.cell? ⟨ab, ao + i * 9 + 2, none⟩ = some (.int .i64 job) ∧ w'.cell? ⟨ab, ao + i * 9 + 3, none⟩ = some (.int .i64 bdg) ∧ w'.cell? ⟨ab, ao + i * 9 + 4, none⟩ = some (.int .i64 idx) ∧ w'.cell? ⟨ab, ao + i * 9 + 5, none⟩ = some (.string tt)) (by kernel_rfl) (HS0.out) (fun hHeld => ?_)
      refine wpAnyH_take (i := 0) (v := .pointer (some ⟨b, 0, none⟩)) rfl (by kernel_rfl) (by kernel_rfl) (by kernel_rfl) (fun _ _ _ h => h) (Or.inl ⟨by kernel_rfl, fun w1 hSw => by clear hHeld; obtain ⟨k2, k3, k4, k5⟩ := hSw; go_simp⟩) hHeld ?_
      try simp only [Act.put]
      try simp only [List.getElem_toArray]
      try simp only [List.getElem_cons_succ]
      try simp only [List.getElem_cons_zero]
      try simp only [List.setIfInBounds_toArray]
      try simp only [List.set_cons_succ, List.set_cons_zero]
      refine wpAnyH_take (i := 1) (v := .slice (some ⟨ab, ao, none⟩) L.length cap) rfl (by kernel_rfl) (by kernel_rfl) (by kernel_rfl) (fun _ _ _ h => h) (Or.inl ⟨by kernel_rfl, fun w1 hSw => by clear hHeld; obtain ⟨k2, k3, k4, k5⟩ := hSw; go_simp⟩) hHeld ?_
      try simp only [Act.put]
      try simp only [List.getElem_toArray]
      try simp only [List.getElem_cons_succ]
      try simp only [List.getElem_cons_zero]
      try simp only [List.setIfInBounds_toArray]
      try simp only [List.set_cons_succ, List.set_cons_zero]
      refine wpAnyH_take (i := 2) (v := .int .i64 (i : Int)) rfl (by kernel_rfl) (by kernel_rfl) (by kernel_rfl) (fun _ _ _ h => h) (Or.inl ⟨by kernel_rfl, fun w1 hSw => by clear hHeld; obtain ⟨k2, k3, k4, k5⟩ := hSw; go_simp⟩) hHeld ?_
      try simp only [Act.put]
      try simp only [List.getElem_toArray]
      try simp only [List.getElem_cons_succ]
      try simp only [List.getElem_cons_zero]
      try simp only [List.setIfInBounds_toArray]
      try simp only [List.set_cons_succ, List.set_cons_zero]
      refine wpAnyH_take (i := 3) (v := .pointer (some ⟨ab, ao + i * 9, none⟩)) rfl (by kernel_rfl) (by kernel_rfl) (by kernel_rfl) (fun _ _ _ h => h) (Or.inl ⟨by kernel_rfl, fun w1 hSw => by clear hHeld; obtain ⟨k2, k3, k4, k5⟩ := hSw; go_simp⟩) hHeld ?_
      try simp only [Act.put]
      try simp only [List.getElem_toArray]
      try simp only [List.getElem_cons_succ]
      try simp only [List.getElem_cons_zero]
      try simp only [List.setIfInBounds_toArray]
      try simp only [List.set_cons_succ, List.set_cons_zero]
      refine wpAnyH_take (i := 4) (v := .pointer (some ⟨ab, ao + i * 9 + 2, none⟩)) rfl (by kernel_rfl) (by kernel_rfl) (by kernel_rfl) (fun _ _ _ h => h) (Or.inl ⟨by kernel_rfl, fun w1 hSw => by clear hHeld; obtain ⟨k2, k3, k4, k5⟩ := hSw; go_simp⟩) hHeld ?_
      try simp only [Act.put]
      try simp only [List.getElem_toArray]
      try simp only [List.getElem_cons_succ]
      try simp only [List.getElem_cons_zero]
      try simp only [List.setIfInBounds_toArray]
      try simp only [List.set_cons_succ, List.set_cons_zero]
      refine wpAnyH_take (i := 5) (v := .int .i64 job) rfl (by kernel_rfl) (by kernel_rfl) (by kernel_rfl) (fun _ _ _ h => h) (Or.inl ⟨by kernel_rfl, fun w1 hSw => by clear hHeld; obtain ⟨k2, k3, k4, k5⟩ := hSw; go_simp⟩) hHeld ?_
      try simp only [Act.put]
      try simp only [List.getElem_toArray]
      try simp only [List.getElem_cons_succ]
      try simp only [List.getElem_cons_zero]
      try simp only [List.setIfInBounds_toArray]
      try simp only [List.set_cons_succ, List.set_cons_zero]
      refine wpAnyH_take (i := 6) (v := .slice (some ⟨ab, ao, none⟩) L.length cap) rfl (by kernel_rfl) (by kernel_rfl) (by kernel_rfl) (fun _ _ _ h => h) (Or.inl ⟨by kernel_rfl, fun w1 hSw => by clear hHeld; obtain ⟨k2, k3, k4, k5⟩ := hSw; go_simp⟩) hHeld ?_
      try simp only [Act.put]
      try simp only [List.getElem_toArray]
      try simp only [List.getElem_cons_succ]
      try simp only [List.getElem_cons_zero]
      try simp only [List.setIfInBounds_toArray]
      try simp only [List.set_cons_succ, List.set_cons_zero]
      refine wpAnyH_take (i := 7) (v := .int .i64 (i : Int)) rfl (by kernel_rfl) (by kernel_rfl) (by kernel_rfl) (fun _ _ _ h => h) (Or.inl ⟨by kernel_rfl, fun w1 hSw => by clear hHeld; obtain ⟨k2, k3, k4, k5⟩ := hSw; go_simp⟩) hHeld ?_
      try simp only [Act.put]
      try simp only [List.getElem_toArray]
      try simp only [List.getElem_cons_succ]
      try simp only [List.getElem_cons_zero]
      try simp only [List.setIfInBounds_toArray]
      try simp only [List.set_cons_succ, List.set_cons_zero]
      refine wpAnyH_take (i := 8) (v := .pointer (some ⟨ab, ao + i * 9, none⟩)) rfl (by kernel_rfl) (by kernel_rfl) (by kernel_rfl) (fun _ _ _ h => h) (Or.inl ⟨by kernel_rfl, fun w1 hSw => by clear hHeld; obtain ⟨k2, k3, k4, k5⟩ := hSw; go_simp⟩) hHeld ?_
      try simp only [Act.put]
      try simp only [List.getElem_toArray]
      try simp only [List.getElem_cons_succ]
      try simp only [List.getElem_cons_zero]
      try simp only [List.setIfInBounds_toArray]
      try simp only [List.set_cons_succ, List.set_cons_zero]
      refine wpAnyH_take (i := 9) (v := .pointer (some ⟨ab, ao + i * 9 + 3, none⟩)) rfl (by kernel_rfl) (by kernel_rfl) (by kernel_rfl) (fun _ _ _ h => h) (Or.inl ⟨by kernel_rfl, fun w1 hSw => by clear hHeld; obtain ⟨k2, k3, k4, k5⟩ := hSw; go_simp⟩) hHeld ?_
      try simp only [Act.put]
      try simp only [List.getElem_toArray]
      try simp only [List.getElem_cons_succ]
      try simp only [List.getElem_cons_zero]
      try simp only [List.setIfInBounds_toArray]
      try simp only [List.set_cons_succ, List.set_cons_zero]
      refine wpAnyH_take (i := 10) (v := .int .i64 bdg) rfl (by kernel_rfl) (by kernel_rfl) (by kernel_rfl) (fun _ _ _ h => h) (Or.inl ⟨by kernel_rfl, fun w1 hSw => by clear hHeld; obtain ⟨k2, k3, k4, k5⟩ := hSw; go_simp⟩) hHeld ?_
      try simp only [Act.put]
      try simp only [List.getElem_toArray]
      try simp only [List.getElem_cons_succ]
      try simp only [List.getElem_cons_zero]
      try simp only [List.setIfInBounds_toArray]
      try simp only [List.set_cons_succ, List.set_cons_zero]
      refine wpAnyH_take (i := 11) (v := .slice (some ⟨ab, ao, none⟩) L.length cap) rfl (by kernel_rfl) (by kernel_rfl) (by kernel_rfl) (fun _ _ _ h => h) (Or.inl ⟨by kernel_rfl, fun w1 hSw => by clear hHeld; obtain ⟨k2, k3, k4, k5⟩ := hSw; go_simp⟩) hHeld ?_
      try simp only [Act.put]
      try simp only [List.getElem_toArray]
      try simp only [List.getElem_cons_succ]
      try simp only [List.getElem_cons_zero]
      try simp only [List.setIfInBounds_toArray]
      try simp only [List.set_cons_succ, List.set_cons_zero]
      refine wpAnyH_take (i := 12) (v := .int .i64 (i : Int)) rfl (by kernel_rfl) (by kernel_rfl) (by kernel_rfl) (fun _ _ _ h => h) (Or.inl ⟨by kernel_rfl, fun w1 hSw => by clear hHeld; obtain ⟨k2, k3, k4, k5⟩ := hSw; go_simp⟩) hHeld ?_
      try simp only [Act.put]
      try simp only [List.getElem_toArray]
      try simp only [List.getElem_cons_succ]
      try simp only [List.getElem_cons_zero]
      try simp only [List.setIfInBounds_toArray]
      try simp only [List.set_cons_succ, List.set_cons_zero]
      refine wpAnyH_take (i := 13) (v := .pointer (some ⟨ab, ao + i * 9, none⟩)) rfl (by kernel_rfl) (by kernel_rfl) (by kernel_rfl) (fun _ _ _ h => h) (Or.inl ⟨by kernel_rfl, fun w1 hSw => by clear hHeld; obtain ⟨k2, k3, k4, k5⟩ := hSw; go_simp⟩) hHeld ?_
      try simp only [Act.put]
      try simp only [List.getElem_toArray]
      try simp only [List.getElem_cons_succ]
      try simp only [List.getElem_cons_zero]
      try simp only [List.setIfInBounds_toArray]
      try simp only [List.set_cons_succ, List.set_cons_zero]
      refine wpAnyH_take (i := 14) (v := .pointer (some ⟨ab, ao + i * 9 + 4, none⟩)) rfl (by kernel_rfl) (by kernel_rfl) (by kernel_rfl) (fun _ _ _ h => h) (Or.inl ⟨by kernel_rfl, fun w1 hSw => by clear hHeld; obtain ⟨k2, k3, k4, k5⟩ := hSw; go_simp⟩) hHeld ?_
      try simp only [Act.put]
      try simp only [List.getElem_toArray]
      try simp only [List.getElem_cons_succ]
      try simp only [List.getElem_cons_zero]
      try simp only [List.setIfInBounds_toArray]
      try simp only [List.set_cons_succ, List.set_cons_zero]
      refine wpAnyH_take (i := 15) (v := .int .i64 idx) rfl (by kernel_rfl) (by kernel_rfl) (by kernel_rfl) (fun _ _ _ h => h) (Or.inl ⟨by kernel_rfl, fun w1 hSw => by clear hHeld; obtain ⟨k2, k3, k4, k5⟩ := hSw; go_simp⟩) hHeld ?_
      try simp only [Act.put]
      try simp only [List.getElem_toArray]
      try simp only [List.getElem_cons_succ]
      try simp only [List.getElem_cons_zero]
      try simp only [List.setIfInBounds_toArray]
      try simp only [List.set_cons_succ, List.set_cons_zero]
      refine wpAnyH_take (i := 16) (v := .slice (some ⟨ab, ao, none⟩) L.length cap) rfl (by kernel_rfl) (by kernel_rfl) (by kernel_rfl) (fun _ _ _ h => h) (Or.inl ⟨by kernel_rfl, fun w1 hSw => by clear hHeld; obtain ⟨k2, k3, k4, k5⟩ := hSw; go_simp⟩) hHeld ?_
      try simp only [Act.put]
      try simp only [List.getElem_toArray]
      try simp only [List.getElem_cons_succ]
      try simp only [List.getElem_cons_zero]
      try simp only [List.setIfInBounds_toArray]
      try simp only [List.set_cons_succ, List.set_cons_zero]
      refine wpAnyH_take (i := 17) (v := .int .i64 (i : Int)) rfl (by kernel_rfl) (by kernel_rfl) (by kernel_rfl) (fun _ _ _ h => h) (Or.inl ⟨by kernel_rfl, fun w1 hSw => by clear hHeld; obtain ⟨k2, k3, k4, k5⟩ := hSw; go_simp⟩) hHeld ?_
      try simp only [Act.put]
      try simp only [List.getElem_toArray]
      try simp only [List.getElem_cons_succ]
      try simp only [List.getElem_cons_zero]
      try simp only [List.setIfInBounds_toArray]
      try simp only [List.set_cons_succ, List.set_cons_zero]
      refine wpAnyH_take (i := 18) (v := .pointer (some ⟨ab, ao + i * 9, none⟩)) rfl (by kernel_rfl) (by kernel_rfl) (by kernel_rfl) (fun _ _ _ h => h) (Or.inl ⟨by kernel_rfl, fun w1 hSw => by clear hHeld; obtain ⟨k2, k3, k4, k5⟩ := hSw; go_simp⟩) hHeld ?_
      try simp only [Act.put]
      try simp only [List.getElem_toArray]
      try simp only [List.getElem_cons_succ]
      try simp only [List.getElem_cons_zero]
      try simp only [List.setIfInBounds_toArray]
      try simp only [List.set_cons_succ, List.set_cons_zero]
      refine wpAnyH_take (i := 19) (v := .pointer (some ⟨ab, ao + i * 9 + 5, none⟩)) rfl (by kernel_rfl) (by kernel_rfl) (by kernel_rfl) (fun _ _ _ h => h) (Or.inl ⟨by kernel_rfl, fun w1 hSw => by clear hHeld; obtain ⟨k2, k3, k4, k5⟩ := hSw; go_simp⟩) hHeld ?_
      try simp only [Act.put]
      try simp only [List.getElem_toArray]
      try simp only [List.getElem_cons_succ]
      try simp only [List.getElem_cons_zero]
      try simp only [List.setIfInBounds_toArray]
      try simp only [List.set_cons_succ, List.set_cons_zero]
      refine wpAnyH_take (i := 20) (v := .string tt) rfl (by kernel_rfl) (by kernel_rfl) (by kernel_rfl) (fun _ _ _ h => h) (Or.inl ⟨by kernel_rfl, fun w1 hSw => by clear hHeld; obtain ⟨k2, k3, k4, k5⟩ := hSw; go_simp⟩) hHeld ?_
      try simp only [Act.put]
      try simp only [List.getElem_toArray]
      try simp only [List.getElem_cons_succ]
      try simp only [List.getElem_cons_zero]
      try simp only [List.setIfInBounds_toArray]
      try simp only [List.set_cons_succ, List.set_cons_zero]
      refine wpAnyH_ready (rs := [21]) (by kernel_rfl) (by simp) ?_
      refine AllReadyH.cons rfl (fun K hK => ?_) AllReadyH.nil
      go_simp
      refine HC.out.mono ?_
      rintro e V1 ⟨rfl, hg⟩
      have HG := hide hg
      have HS1 := hide (HKeep.out _ hg)
      clear hg
      refine hK.out _ _ (HS1.out) (fun hHeld => ?_)
      clear hK K
      try simp only [Act.put]
      try simp only [List.getElem_toArray]
      try simp only [List.getElem_cons_succ]
      try simp only [List.getElem_cons_zero]
      try simp only [List.setIfInBounds_toArray]
      try simp only [List.set_cons_succ, List.set_cons_zero]
      refine wpAnyH_done (by kernel_rfl) ?_ _
      obtain ⟨F', hd⟩ := HR.out.drew.step HG.out
      have HDn := hide hd
      have HTn : Hid ((T ++ news s job bdg idx tt).length ≤ i + 1) := hide (by rw [List.length_append]; have := HT.out; have := HN.out; omega)
      clear HS1 HG hHeld HC HKeep HS0 HR HT HN hd
      go_wp2_with fail
      go_roundw
      case rel => exact ⟨i + 1, _, _, F', by go_num, by omega, HDn, HTn⟩
      case measure => simp only [intOf]; omega
    · obtain rfl : i = L.length := by omega
      have hii : ¬ ((L.length : Int) < (L.length : Int)) := by omega
      have hTl : T.length ≤ 1600000000000 := by have := HT.out; omega
      have HA1 := hide HR.out.one.arts
      have HSt : Hid (1 ≤ (s jo).1 ∨ s jo = (0, [])) := hide (by rcases HR.out.one.st jo with h | h; exact .inl h.2.2.1; exact .inr h)
      clear HO
      go_wp2_with fail
      refine HA1.out.mono ?_
      rintro e w3 ⟨ad3, g3, cap3, Y, rfl, hY, hLs, hown, _, hb3⟩
      have HY := hide hY
      have HLs := hide hLs
      have HD3 := hide (HR.out.below hb3)
      clear hY hLs hown hb3 HR HA1
      have hYl : Y.length ≤ 8 := ls_len HLs.out
      have hM3 := HD3.out.m4
      have m3 : w3.cell? ⟨w.heap.size, 3, none⟩ = some (.int .i64 jo) := by simp [World.cell?, hM3]
      clear hM3
      go_wp2_with fail
      go_loopw [9, 11] (fun u9 u11 wv => ∃ (q n : Nat), u11 = .int .i64 (q : Int) ∧ q ≤ Y.length ∧ u9 = .int .i64 (topF s jo (Y.take q)) ∧ wv = w3.drewN n) (fun _ u11 _ => Y.length - (intOf u11).toNat)
      case atStart => exact ⟨0, 0, rfl, Nat.zero_le _, rfl, rfl⟩
      case round =>
        obtain ⟨q, n, rfl, hq, rfl, rfl⟩ := hrel
        by_cases hql : q < Y.length
        · have had3 := HY.out.at_ (by omega)
          subst had3
          obtain ⟨c0, c1, _⟩ := artAt HY.out hql
          have hqi : (q : Int) < (Y.length : Int) := by omega
          have HTs := hide (topF_step (s := s) (j := jo) hql)
          have hat := HLs.out.at_ Y[q] (List.getElem_mem hql)
          by_cases e : (Y[q]).job = jo
          · rw [if_pos e] at HTs
            rw [e] at hat c0
            have HE : Hid ((Y[q]).bdg = topF s jo (Y.take (q + 1))) := hide (by rw [HTs.out, hat])
            clear hat HTs e
            generalize (Y[q]).bdg = bq at *
            go_wp2_with fail
            go_quiet (fail)
            go_wp2_with fail
            exact ⟨⟨q + 1, _, by go_num, by omega, by rw [HE.out], rfl⟩, by simp [intOf]; omega⟩
          · rw [if_neg e] at HTs
            have e1 : ((Y[q]).job == jo) = false := by simpa using e
            have e2 : decide ((Y[q]).job = jo) = false := decide_eq_false e
            clear hat e
            generalize (Y[q]).job = jq at *
            generalize (Y[q]).bdg = bq at *
            go_wp2_with fail
            go_quiet (fail)
            go_wp2_with fail
            exact ⟨⟨q + 1, _, by go_num, by omega, by rw [HTs.out], rfl⟩, by simp [intOf]; omega⟩
        · obtain rfl : q = Y.length := by omega
          have hqi : ¬ ((Y.length : Int) < (Y.length : Int)) := by omega
          rw [List.take_length, topF_all HLs.out HSt.out]
          have HD4 := hide (HD3.out.below (below_drewN _ n))
          clear HD3 HY HLs m3 hYl hqi hq
          generalize w3.drewN n = W4 at *
          have hM4 := HD4.out.m4
          have m0 : W4.cell? ⟨w.heap.size, 0, none⟩ = some (.int .i64 k) := by simp [World.cell?, hM4]
          have m1 : W4.cell? ⟨w.heap.size, 1, none⟩ = some (.int .i64 se) := by simp [World.cell?, hM4]
          have m2 : W4.cell? ⟨w.heap.size, 2, none⟩ = some (.int .i64 nu) := by simp [World.cell?, hM4]
          have m3 : W4.cell? ⟨w.heap.size, 3, none⟩ = some (.int .i64 jo) := by simp [World.cell?, hM4]
          have m4 : W4.cell? ⟨w.heap.size, 4, none⟩ = some (.int .i64 ba) := by simp [World.cell?, hM4]
          have m5 : W4.cell? ⟨w.heap.size, 5, none⟩ = some (.int .i64 ix) := by simp [World.cell?, hM4]
          have m6 : W4.cell? ⟨w.heap.size, 6, none⟩ = some (.int .i64 co) := by simp [World.cell?, hM4]
          have m7 : W4.cell? ⟨w.heap.size, 7, none⟩ = some (.int .i64 rc) := by simp [World.cell?, hM4]
          have m8 : W4.cell? ⟨w.heap.size, 8, none⟩ = some (.int .u64 (rb : Int)) := by simp [World.cell?, hM4]
          have m9 : W4.cell? ⟨w.heap.size, 9, none⟩ = some (.string tx) := by simp [World.cell?, hM4]
          have m10 : W4.cell? ⟨w.heap.size, 10, none⟩ = some (.string pr) := by simp [World.cell?, hM4]
          clear hM4
          go_wp2_with fail
          refine (HEn.out _).mono ?_
          rintro e w5 ⟨rfl, hb5⟩
          have HD5 := hide (HD4.out.below hb5)
          clear hb5 HD4 HEn m0 m1 m2 m3 m4 m5 m6 m7 m8 m9 m10
          have hA5 := HD5.out.a5
          have a0 : w5.cell? ⟨w.heap.size + 1, 0, none⟩ = some (.int .i64 node) := by simp [World.cell?, hA5]
          have a1 : w5.cell? ⟨w.heap.size + 1, 1, none⟩ = some (.int .i64 life) := by simp [World.cell?, hA5]
          clear hA5
          by_cases hc : Wr.check mm = 0
          rotate_left
          · have hcn : (((Wr.check mm : Nat) : Int) != 0) = true := by simpa using hc
            have he : encB mm = ⟨#[]⟩ := by unfold encB; rw [if_neg hc]
            rw [he]
            have HC := hide (HD5.out.one.hear hTl node life ⟨#[]⟩ (by decide))
            generalize ((Wr.check mm : Nat) : Int) = ck at hcn ⊢
            clear hc he
            go_wp2_with fail
            refine HC.out.mono ?_
            rintro e w6 ⟨hg, ⟨_, rfl⟩ | ⟨hp, _⟩⟩
            rotate_left
            · rw [put_none] at hp; cases hp
            obtain ⟨F6, hd6⟩ := HD5.out.step hg
            have HB6 := hide hd6.low
            clear hg hd6 HC HD5
            go_wp2_with fail
            go_ret
            exact ⟨rfl, HB6.out⟩
          have hcz : ((Wr.check mm : Nat) : Int) = 0 := by rw [hc]; rfl
          rw [hcz]
          have HDe : Hid (Wr.decode limP (encB mm) = (mm, 0)) := hide (enc_dec (by rw [HM.out]; exact HRb.out) hc lim_p)
          have HPu : Hid (isPut (encB mm) = decide (k = 6)) := hide (by unfold isPut; rw [HDe.out, HM.out]; simp)
          have HHm : Hid (hm (encB mm) = mm) := hide (by unfold hm; rw [HDe.out])
          have hds : (encB mm).size ≤ 9223372036854775807 := by
            have h1 := (Wr.decode_form HDe.out).1
            omega
          have HC := hide (HD5.out.one.hear hTl node life (encB mm) hds)
          have HCk := hide hc
          generalize encB mm = d at *
          clear hcz hds hc HDe
          go_upto_region 18 with fail
          go_wp2_with fail
          refine HC.out.mono ?_
          intro e w6 hH
          obtain ⟨hg, hw⟩ := hH
          obtain ⟨F6, hd6⟩ := HD5.out.step hg
          have HD6 := hide hd6
          have hM6 := hd6.m4
          have hA6 := hd6.a5
          have m0 : w6.cell? ⟨w.heap.size, 0, none⟩ = some (.int .i64 k) := by simp [World.cell?, hM6]
          have m1 : w6.cell? ⟨w.heap.size, 1, none⟩ = some (.int .i64 se) := by simp [World.cell?, hM6]
          have m2 : w6.cell? ⟨w.heap.size, 2, none⟩ = some (.int .i64 nu) := by simp [World.cell?, hM6]
          have m3 : w6.cell? ⟨w.heap.size, 3, none⟩ = some (.int .i64 jo) := by simp [World.cell?, hM6]
          have m4 : w6.cell? ⟨w.heap.size, 4, none⟩ = some (.int .i64 ba) := by simp [World.cell?, hM6]
          have m5 : w6.cell? ⟨w.heap.size, 5, none⟩ = some (.int .i64 ix) := by simp [World.cell?, hM6]
          have m6 : w6.cell? ⟨w.heap.size, 6, none⟩ = some (.int .i64 co) := by simp [World.cell?, hM6]
          have m7 : w6.cell? ⟨w.heap.size, 7, none⟩ = some (.int .i64 rc) := by simp [World.cell?, hM6]
          have m8 : w6.cell? ⟨w.heap.size, 8, none⟩ = some (.int .u64 (rb : Int)) := by simp [World.cell?, hM6]
          have m9 : w6.cell? ⟨w.heap.size, 9, none⟩ = some (.string tx) := by simp [World.cell?, hM6]
          have m10 : w6.cell? ⟨w.heap.size, 10, none⟩ = some (.string pr) := by simp [World.cell?, hM6]
          have a0 : w6.cell? ⟨w.heap.size + 1, 0, none⟩ = some (.int .i64 node) := by simp [World.cell?, hA6]
          have a1 : w6.cell? ⟨w.heap.size + 1, 1, none⟩ = some (.int .i64 life) := by simp [World.cell?, hA6]
          have hst6 : hst s d = if k = 6 then nxt s jo ba ix tx else s := by unfold hst; rw [HPu.out, HHm.out, HM.out]; simp
          rw [hst6] at hd6 HD6
          clear hg HC HD5 hd6 hM6 hA6 hst6
          by_cases hk : k = 6
          rotate_left
          · rw [if_neg hk] at HD6
            rcases hw with ⟨_, rfl⟩ | ⟨hp, _⟩
            rotate_left
            · rw [HPu.out] at hp; exact absurd (of_decide_eq_true hp) hk
            have hkn : (k != 6) = true := by simpa using hk
            have hkd : decide (k = 6) = false := decide_eq_false hk
            have HB6 := hide HD6.out.low
            clear HD6 hk HPu HHm
            go_wp2_with fail
            go_ret
            exact ⟨rfl, HB6.out⟩
          rcases hw with ⟨hp, _⟩ | ⟨_, g, rfl, hgs, hgd, _⟩
          · rw [HPu.out, decide_eq_true hk] at hp; cases hp
          subst hk
          rw [HHm.out] at hgd
          rw [if_pos rfl] at HD6
          have hmk : mm.k = 6 := by rw [HM.out]
          have hbd := put_bd HCk.out hmk
          have hpe := pe_put (s := s) HCk.out hmk
          have HCl := hide (claim_pos (s := s) HCk.out hmk)
          have hrp : rep s mm = if ba < (s jo).1 then ⟨16, 0, 0, jo, ba, 0, 0, 0, 0, ⟨#[]⟩, ⟨#[]⟩⟩ else ⟨15, 0, 0, jo, ba, 0, cnt (nxt s jo ba ix tx) jo ba, 0, 0, ⟨#[]⟩, ⟨#[]⟩⟩ := by
            rw [HM.out] at hpe ⊢
            unfold rep
            simp only at hpe ⊢
            by_cases h9 : ba < (s jo).1
            · rw [if_pos h9, if_pos (hpe.2 h9)]
            · rw [if_neg h9, if_neg (fun h => h9 (hpe.1 h))]
          rw [HM.out] at hbd HCl
          simp only at hbd HCl
          rw [hrp] at hgd
          obtain ⟨bj, bb, bi, _, _⟩ := hbd
          have Hbj := hide bj
          have Hbb := hide bb
          clear hpe hrp hmk bj bb bi
          have hgA := guardAd
          have hnA := neqAd
          have HS6 := hide (HD6.out.one.st jo)
          obtain ⟨s2, hs2⟩ : ∃ s2, nxt s jo ba ix tx = s2 := ⟨_, rfl⟩
          rw [hs2] at HD6 HCl hgd HS6
          have hgl := lt_blk hgd
          by_cases hlt : ba < (s jo).1
          · rw [if_pos hlt] at hgd
            have HDc : Hid (Wr.decode limD (encB ⟨16, 0, 0, jo, ba, 0, 0, 0, 0, ⟨#[]⟩, ⟨#[]⟩⟩) = (⟨16, 0, 0, jo, ba, 0, 0, 0, 0, ⟨#[]⟩, ⟨#[]⟩⟩, 0)) := hide (enc_dec (by show (0 : Nat) < _; decide) (ref_ok Hbj.out Hbb.out) lim_d)
            have HRd := hide (fun V => rdecode_any (encB ⟨16, 0, 0, jo, ba, 0, 0, 0, 0, ⟨#[]⟩, ⟨#[]⟩⟩) V (by have := (Wr.decode_form HDc.out).1; omega))
            rw [HDc.out] at HRd
            generalize encB ⟨16, 0, 0, jo, ba, 0, 0, 0, 0, ⟨#[]⟩, ⟨#[]⟩⟩ = DD at *
            have g0 : w6.cell? ⟨g, 0, none⟩ = some (.int .i64 0) := by simp [World.cell?, hgd]
            have g1 : w6.cell? ⟨g, 1, none⟩ = some (.int .i64 1) := by simp [World.cell?, hgd]
            have g2 : w6.cell? ⟨g, 2, none⟩ = some (.int .i64 0) := by simp [World.cell?, hgd]
            have g3 : w6.cell? ⟨g, 3, none⟩ = some (.int .i64 node) := by simp [World.cell?, hgd]
            have g4 : w6.cell? ⟨g, 4, none⟩ = some (.int .i64 life) := by simp [World.cell?, hgd]
            have g5 : w6.cell? ⟨g, 5, none⟩ = some (.string DD) := by simp [World.cell?, hgd]
            have HB6 := HD6
            clear hgd HDc
            go_wp2_with fail
            go_quiet (fail)
            have HD7 := hide (HD6.out.below (below_drewN _ nq))
            have g5' : (w6.drewN nq).cell? ⟨g, 5, none⟩ = some (.string DD) := g5
            clear HD6 HB6 g0 g1 g2 g3 g4 g5 m0 m1 m2 m3 m4 m5 m6 m7 m8 m9 m10 a0 a1
            generalize w6.drewN nq = W7 at *
            go_wp2_with fail
            refine (HRd.out _).mono ?_
            rintro e w8 ⟨rfl, hb8⟩
            have HD8 := hide ((HD7.out.below hb8).below (below_alloc w8 (.cells #[.int .i64 16, .int .i64 0, .int .i64 0, .int .i64 jo, .int .i64 ba, .int .i64 0, .int .i64 0, .int .i64 0, .int .u64 0, .string ⟨#[]⟩, .string ⟨#[]⟩] 27)))
            have hM8 := HD8.out.m4
            have m3 : (w8.alloc (.cells #[.int .i64 16, .int .i64 0, .int .i64 0, .int .i64 jo, .int .i64 ba, .int .i64 0, .int .i64 0, .int .i64 0, .int .u64 0, .string ⟨#[]⟩, .string ⟨#[]⟩] 27)).cell? ⟨w.heap.size, 3, none⟩ = some (.int .i64 jo) := by rw [World.cell?, hM8]; rfl
            have m4 : (w8.alloc (.cells #[.int .i64 16, .int .i64 0, .int .i64 0, .int .i64 jo, .int .i64 ba, .int .i64 0, .int .i64 0, .int .i64 0, .int .u64 0, .string ⟨#[]⟩, .string ⟨#[]⟩] 27)).cell? ⟨w.heap.size, 4, none⟩ = some (.int .i64 ba) := by rw [World.cell?, hM8]; rfl
            have HB8 := hide HD8.out.low
            clear hb8 hM8 HD7 HD8 HRd g5'
            simp only [msgC]
            go_wp2_with fail
            go_ret
            exact ⟨rfl, HB8.out⟩
          · rw [if_neg hlt] at hgd
            have hcb : 0 ≤ cnt s2 jo ba ∧ cnt s2 jo ba ≤ 17 := by
              refine ⟨cnt_nn _ _ _, ?_⟩
              unfold cnt
              split
              · rcases HS6.out with h | h
                · have := h.2.2.2.2; omega
                · rw [h]; simp
              · omega
            obtain ⟨cc, hcc⟩ : ∃ cc, cnt s2 jo ba = cc := ⟨_, rfl⟩
            rw [hcc] at hgd hcb HCl
            have Hcc := hide hcc
            have HDc : Hid (Wr.decode limD (encB ⟨15, 0, 0, jo, ba, 0, cc, 0, 0, ⟨#[]⟩, ⟨#[]⟩⟩) = (⟨15, 0, 0, jo, ba, 0, cc, 0, 0, ⟨#[]⟩, ⟨#[]⟩⟩, 0)) := hide (enc_dec (by show (0 : Nat) < _; decide) (took_ok Hbj.out Hbb.out hcb) lim_d)
            have HRd := hide (fun V => rdecode_any (encB ⟨15, 0, 0, jo, ba, 0, cc, 0, 0, ⟨#[]⟩, ⟨#[]⟩⟩) V (by have := (Wr.decode_form HDc.out).1; omega))
            rw [HDc.out] at HRd
            generalize encB ⟨15, 0, 0, jo, ba, 0, cc, 0, 0, ⟨#[]⟩, ⟨#[]⟩⟩ = DD at *
            have g0 : w6.cell? ⟨g, 0, none⟩ = some (.int .i64 0) := by simp [World.cell?, hgd]
            have g1 : w6.cell? ⟨g, 1, none⟩ = some (.int .i64 1) := by simp [World.cell?, hgd]
            have g2 : w6.cell? ⟨g, 2, none⟩ = some (.int .i64 0) := by simp [World.cell?, hgd]
            have g3 : w6.cell? ⟨g, 3, none⟩ = some (.int .i64 node) := by simp [World.cell?, hgd]
            have g4 : w6.cell? ⟨g, 4, none⟩ = some (.int .i64 life) := by simp [World.cell?, hgd]
            have g5 : w6.cell? ⟨g, 5, none⟩ = some (.string DD) := by simp [World.cell?, hgd]
            clear hgd HDc hcb hcc
            go_wp2_with fail
            go_quiet (fail)
            have HD7 := hide (HD6.out.below (below_drewN _ nq))
            have g5' : (w6.drewN nq).cell? ⟨g, 5, none⟩ = some (.string DD) := g5
            clear HD6 g0 g1 g2 g3 g4 g5 m0 m1 m2 m3 m4 m5 m6 m7 m8 m9 m10 a0 a1
            generalize w6.drewN nq = W7 at *
            go_wp2_with fail
            refine (HRd.out _).mono ?_
            rintro e w8 ⟨rfl, hb8⟩
            obtain ⟨X, hX⟩ : ∃ X, w8.heap.size = X := ⟨_, rfl⟩
            have hnX := heap_alloc_new w8 (.cells #[.int .i64 15, .int .i64 0, .int .i64 0, .int .i64 jo, .int .i64 ba, .int .i64 0, .int .i64 cc, .int .i64 0, .int .u64 0, .string ⟨#[]⟩, .string ⟨#[]⟩] 27)
            rw [hX] at hnX
            have HnX := hide hnX
            have HD8 := hide ((HD7.out.below hb8).below (below_alloc w8 (.cells #[.int .i64 15, .int .i64 0, .int .i64 0, .int .i64 jo, .int .i64 ba, .int .i64 0, .int .i64 cc, .int .i64 0, .int .u64 0, .string ⟨#[]⟩, .string ⟨#[]⟩] 27)))
            have hM8 := HD8.out.m4
            have m3 : (w8.alloc (.cells #[.int .i64 15, .int .i64 0, .int .i64 0, .int .i64 jo, .int .i64 ba, .int .i64 0, .int .i64 cc, .int .i64 0, .int .u64 0, .string ⟨#[]⟩, .string ⟨#[]⟩] 27)).cell? ⟨w.heap.size, 3, none⟩ = some (.int .i64 jo) := by rw [World.cell?, hM8]; rfl
            have m4 : (w8.alloc (.cells #[.int .i64 15, .int .i64 0, .int .i64 0, .int .i64 jo, .int .i64 ba, .int .i64 0, .int .i64 cc, .int .i64 0, .int .u64 0, .string ⟨#[]⟩, .string ⟨#[]⟩] 27)).cell? ⟨w.heap.size, 4, none⟩ = some (.int .i64 ba) := by rw [World.cell?, hM8]; rfl
            have HAr := hide HD8.out.one.arts
            have hXw : X < (w8.alloc (.cells #[.int .i64 15, .int .i64 0, .int .i64 0, .int .i64 jo, .int .i64 ba, .int .i64 0, .int .i64 cc, .int .i64 0, .int .u64 0, .string ⟨#[]⟩, .string ⟨#[]⟩] 27)).heap.size := lt_blk hnX
            clear hb8 hM8 HD7 HRd g5' hnX
            simp only [msgC]
            go_wp2_with fail
            generalize w8.alloc _ = W8 at *
            refine HAr.out.mono ?_
            rintro e w9 ⟨ad9, g9, cap9, Z, rfl, hZ, hLz, _, _, hb9⟩
            have HZ := hide hZ
            have HLz := hide hLz
            have HD9 := hide (HD8.out.below hb9)
            have HX9 := hide ((hb9.block X hXw).trans HnX.out)
            have hM9 := HD9.out.m4
            have n3 : w9.cell? ⟨w.heap.size, 3, none⟩ = some (.int .i64 jo) := by simp [World.cell?, hM9]
            have n4 : w9.cell? ⟨w.heap.size, 4, none⟩ = some (.int .i64 ba) := by simp [World.cell?, hM9]
            have hZl : Z.length ≤ 8 := ls_len hLz
            clear hZ hLz hb9 HD8 HAr hM9 m3 m4 HnX hXw
            go_wp2_with fail
            go_loopw [17, 18] (fun u17 u18 wv => ∃ (q n : Nat), u18 = .int .i64 (q : Int) ∧ q ≤ Z.length ∧ u17 = .int .i64 (cntF s2 jo ba (Z.take q)) ∧ wv = w9.drewN n) (fun _ u18 _ => Z.length - (intOf u18).toNat)
            case atStart => exact ⟨0, 0, rfl, Nat.zero_le _, rfl, rfl⟩
            case round =>
              obtain ⟨q, n2, rfl, hq2, rfl, rfl⟩ := hrel
              by_cases hql : q < Z.length
              · have had9 := HZ.out.at_ (by omega)
                subst had9
                obtain ⟨c0, c1, c2⟩ := artAt HZ.out hql
                have hqi : (q : Int) < (Z.length : Int) := by omega
                have HCs := hide (cntF_step (s := s2) (j := jo) (b := ba) hql)
                have HCa := hide (fun h1 h2 => cnt_at HLz.out (List.getElem_mem hql) (j := jo) (b := ba) h1 h2)
                have hpl := (HLz.out.ok Z[q] (List.getElem_mem hql)).2.2.2.2
                by_cases e : (Z[q]).job = jo
                · by_cases e2 : (Z[q]).bdg = ba
                  · rw [if_pos ⟨e, e2⟩, HCa.out e e2] at HCs
                    rw [e] at c0
                    rw [e2] at c1
                    clear e e2 HCa
                    generalize (Z[q]).pcs.length = pl at *
                    generalize (Z[q]).ad = pad at *
                    generalize (Z[q]).cap = pcap at *
                    go_wp2_with fail
                    go_quiet (fail)
                    go_wp2_with fail
                    exact ⟨⟨q + 1, _, by go_num, by omega, by rw [HCs.out], rfl⟩, by simp [intOf]; omega⟩
                  · rw [if_neg (fun h => e2 h.2)] at HCs
                    rw [e] at c0
                    have e3 : ((Z[q]).bdg == ba) = false := by simpa using e2
                    have e4 : decide ((Z[q]).bdg = ba) = false := decide_eq_false e2
                    clear e e2 HCa
                    generalize (Z[q]).bdg = bq at *
                    generalize (Z[q]).pcs.length = pl at *
                    generalize (Z[q]).ad = pad at *
                    generalize (Z[q]).cap = pcap at *
                    go_wp2_with fail
                    go_quiet (fail)
                    go_wp2_with fail
                    exact ⟨⟨q + 1, _, by go_num, by omega, by rw [HCs.out], rfl⟩, by simp [intOf]; omega⟩
                · rw [if_neg (fun h => e h.1)] at HCs
                  have e3 : ((Z[q]).job == jo) = false := by simpa using e
                  have e4 : decide ((Z[q]).job = jo) = false := decide_eq_false e
                  clear e HCa
                  generalize (Z[q]).job = jq at *
                  generalize (Z[q]).bdg = bq at *
                  generalize (Z[q]).pcs.length = pl at *
                  generalize (Z[q]).ad = pad at *
                  generalize (Z[q]).cap = pcap at *
                  go_wp2_with fail
                  go_quiet (fail)
                  go_wp2_with fail
                  exact ⟨⟨q + 1, _, by go_num, by omega, by rw [HCs.out], rfl⟩, by simp [intOf]; omega⟩
              · obtain rfl : q = Z.length := by omega
                have hqi : ¬ ((Z.length : Int) < (Z.length : Int)) := by omega
                rw [List.take_length, cntF_all HLz.out, Hcc.out]
                have HD10 := hide (HD9.out.below (below_drewN _ n2))
                have hX10 : (w9.drewN n2).heap[X]? = _ := HX9.out
                have hM10 := HD10.out.m4
                generalize w9.drewN n2 = WX at *
                have x0 : WX.cell? ⟨X, 0, none⟩ = some (.int .i64 15) := by simp [World.cell?, hX10]
                have x6 : WX.cell? ⟨X, 6, none⟩ = some (.int .i64 cc) := by simp [World.cell?, hX10]
                have n5 : WX.cell? ⟨w.heap.size, 5, none⟩ = some (.int .i64 ix) := by simp [World.cell?, hM10]
                have HBf := hide HD10.out.low
                clear hX10 hM10 HD10 HD9 HX9 HZ HLz n3 n4
                by_cases h0 : ix = 0
                · have hcp : 0 < cc := HCl.out hlt h0
                  subst h0
                  go_wp2_with fail
                  go_ret
                  exact ⟨rfl, HBf.out⟩
                · have e3 : (ix != 0) = true := by simpa using h0
                  have e4 : decide (ix = 0) = false := decide_eq_false h0
                  go_wp2_with fail
                  go_ret
                  exact ⟨rfl, HBf.out⟩
end Go.Proofs.YtbbgkajmacknkaaGreat.K
end
