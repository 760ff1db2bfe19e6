import Derived.Test.YtlgcimfbhjidgaaMgAV

section
namespace Go.Proofs.Ytlgcimfbhjidgaa
open Go.RowKit
open Rc (L V Ch)

set_option maxHeartbeats 4000000 in
set_option maxRecDepth 8000 in
theorem rput4_any {x rb : Nat} {n jo sl li rc : Int} {pr : ByteArray} {tx : List ByteArray} (hx : x ≤ 1099511627776) (hl1 : 1 ≤ tx.length) (hl : tx.length ≤ 8) (hs : ∀ t ∈ tx, t.size ≤ 32) (t : Value) (w : World) (hT : Tx w t tx) : Calls Try.prog 27 #[.agg (chC ⟨4, n, jo, (x : Int), sl, li, rc, rb, pr, tx⟩ t)] w fun e w' => e = .returned (.string ⟨(Pk.enc 4 ++ (Pk.enc x ++ Pk.enc tx.length) ++ Rc.layT tx).toArray⟩) ∧ Below w.heap.size w w' := by
  obtain ⟨tp, tc, rfl, hp⟩ := id hT
  obtain ⟨tb, to_, rfl, _, _⟩ := hp hl1
  obtain ⟨RES, hRES⟩ : ∃ R, R = (⟨(Pk.enc 4 ++ (Pk.enc x ++ Pk.enc tx.length) ++ Rc.layT tx).toArray⟩ : ByteArray) := ⟨_, rfl⟩
  rw [← hRES]
  have HRES := hide hRES
  clear hRES
  have HT := hide (fun V (hV : Below (w.alloc (.cells (chC ⟨4, n, jo, (x : Int), sl, li, rc, rb, pr, tx⟩ (.slice (some ⟨tb, to_, none⟩) tx.length tc)) 32)).heap.size (w.alloc (.cells (chC ⟨4, n, jo, (x : Int), sl, li, rc, rb, pr, tx⟩ (.slice (some ⟨tb, to_, none⟩) tx.length tc)) 32)) V) => (hT.below (below_alloc w _) (Nat.le_refl _)).below hV (Nat.le_refl _))
  have hs' : ∀ i, (Rc.layT (tx.take i)).length ≤ 336 := fun i => by
    have h1 := layT42 (tx.take i) (fun t ht => hs t (List.mem_of_mem_take ht))
    have h2 : (tx.take i).length ≤ 8 := by rw [List.length_take]; omega
    omega
  have HC : Hid (∀ V, Below (w.alloc (.cells (chC ⟨4, n, jo, (x : Int), sl, li, rc, rb, pr, tx⟩ (.slice (some ⟨tb, to_, none⟩) tx.length tc)) 32)).heap.size (w.alloc (.cells (chC ⟨4, n, jo, (x : Int), sl, li, rc, rb, pr, tx⟩ (.slice (some ⟨tb, to_, none⟩) tx.length tc)) 32)) V → _) := hide (fun V hV => (Ca.block (heap_alloc_new w (.cells (chC ⟨4, n, jo, (x : Int), sl, li, rc, rb, pr, tx⟩ (.slice (some ⟨tb, to_, none⟩) tx.length tc)) 32) : Ca _ w.heap.size ⟨4, n, jo, (x : Int), sl, li, rc, rb, pr, tx⟩ (.slice (some ⟨tb, to_, none⟩) tx.length tc)) (hV.block _ (by rw [World.size_alloc]; omega))).ten)
  have HB0 : Hid (Below w.heap.size w (w.alloc (.cells (chC ⟨4, n, jo, (x : Int), sl, li, rc, rb, pr, tx⟩ (.slice (some ⟨tb, to_, none⟩) tx.length tc)) 32))) := hide (below_alloc w _)
  have HSz := hide hs
  have e4 := Pk.enc_ten (n := 4) (by decide)
  have ex := Pk.enc_ten (n := x) (by omega)
  have en := Pk.enc_ten (n := tx.length) (by omega)
  obtain ⟨A1, hA1⟩ : ∃ A, A = Pk.enc x ++ Pk.enc tx.length := ⟨_, rfl⟩
  have lA1 : A1.length ≤ 20 := by rw [hA1, List.length_append]; omega
  have addA1 : ∀ W, (Op.stringOp .add ⟨(Pk.enc x).toArray⟩ ⟨(Pk.enc tx.length).toArray⟩).run Try.prog W = .ok (.string ⟨A1.toArray⟩) W := fun W => by rw [hA1]; exact addS (by omega) W
  obtain ⟨A2, hA2⟩ : ∃ A, A = Pk.enc 4 ++ A1 := ⟨_, rfl⟩
  have lA2 : A2.length ≤ 30 := by rw [hA2, List.length_append]; omega
  have addA2 : ∀ W, (Op.stringOp .add ⟨(Pk.enc 4).toArray⟩ ⟨A1.toArray⟩).run Try.prog W = .ok (.string ⟨A2.toArray⟩) W := fun W => by rw [hA2]; exact addS (by omega) W
  rw [← hA1, ← hA2] at HRES
  clear hA1 hA2
  clear hT hs hp
  unfold chC at HC HB0 HT ⊢
  go_enter Try.func27, Try.ntmps27
  go_wp2_with fail
  refine (dnum_any 4 (by decide) _).mono ?_
  rintro e w1 ⟨rfl, hB1⟩
  have HB1 := hide hB1
  clear hB1
  obtain ⟨c0, c1, c2, c3, c4, c5, c6, c7, c8, c9⟩ := HC.out _ HB1.out
  generalize w.alloc (.cells #[.int .i64 4, .int .i64 n, .int .i64 jo, .int .i64 (x : Int), .int .i64 sl, .int .i64 li, .int .i64 rc, .int .u64 (rb : Int), .string pr, .slice (some ⟨tb, to_, none⟩) tx.length tc] 32) = W0 at *
  go_wp2_with fail
  refine wp_region_held_drew (S := fun w' => Below W0.heap.size W0 w') (by kernel_rfl) (Below.trans HB1.out ⟨rfl, rfl, rfl, Nat.le_refl _, fun _ _ => rfl⟩) (fun hHeld => ?_)
  refine wpAnyH_take (i := 0) (v := .string ⟨(Pk.enc 4).toArray⟩) rfl (by kernel_rfl) (by kernel_rfl) (by kernel_rfl) (fun _ _ _ h => h) (Or.inl ⟨by kernel_rfl, fun w1 hSw => by clear hHeld; obtain ⟨c0, c1, c2, c3, c4, c5, c6, c7, c8, c9⟩ := HC.out _ hSw; clear hSw; go_simp⟩) hHeld ?_
  try simp only [Act.put]
  try simp only [List.getElem_toArray]
  try simp only [List.getElem_cons_succ]
  try simp only [List.getElem_cons_zero]
  try simp only [List.setIfInBounds_toArray]
  try simp only [List.set_cons_succ, List.set_cons_zero]
  refine wpAnyH_take (i := 1) (v := .pointer (some ⟨w.heap.size, 3, none⟩)) rfl (by kernel_rfl) (by kernel_rfl) (by kernel_rfl) (fun _ _ _ h => h) (Or.inl ⟨by kernel_rfl, fun w1 hSw => by clear hHeld; obtain ⟨c0, c1, c2, c3, c4, c5, c6, c7, c8, c9⟩ := HC.out _ hSw; clear hSw; go_simp⟩) hHeld ?_
  try simp only [Act.put]
  try simp only [List.getElem_toArray]
  try simp only [List.getElem_cons_succ]
  try simp only [List.getElem_cons_zero]
  try simp only [List.setIfInBounds_toArray]
  try simp only [List.set_cons_succ, List.set_cons_zero]
  refine wpAnyH_take (i := 2) (v := .int .i64 (x : Int)) rfl (by kernel_rfl) (by kernel_rfl) (by kernel_rfl) (fun _ _ _ h => h) (Or.inl ⟨by kernel_rfl, fun w1 hSw => by clear hHeld; obtain ⟨c0, c1, c2, c3, c4, c5, c6, c7, c8, c9⟩ := HC.out _ hSw; clear hSw; go_simp⟩) hHeld ?_
  try simp only [Act.put]
  try simp only [List.getElem_toArray]
  try simp only [List.getElem_cons_succ]
  try simp only [List.getElem_cons_zero]
  try simp only [List.setIfInBounds_toArray]
  try simp only [List.set_cons_succ, List.set_cons_zero]
  refine wpAnyH_take (i := 4) (v := .pointer (some ⟨w.heap.size, 9, none⟩)) rfl (by kernel_rfl) (by kernel_rfl) (by kernel_rfl) (fun _ _ _ h => h) (Or.inl ⟨by kernel_rfl, fun w1 hSw => by clear hHeld; obtain ⟨c0, c1, c2, c3, c4, c5, c6, c7, c8, c9⟩ := HC.out _ hSw; clear hSw; go_simp⟩) hHeld ?_
  try simp only [Act.put]
  try simp only [List.getElem_toArray]
  try simp only [List.getElem_cons_succ]
  try simp only [List.getElem_cons_zero]
  try simp only [List.setIfInBounds_toArray]
  try simp only [List.set_cons_succ, List.set_cons_zero]
  refine wpAnyH_take (i := 5) (v := .slice (some ⟨tb, to_, none⟩) tx.length tc) rfl (by kernel_rfl) (by kernel_rfl) (by kernel_rfl) (fun _ _ _ h => h) (Or.inl ⟨by kernel_rfl, fun w1 hSw => by clear hHeld; obtain ⟨c0, c1, c2, c3, c4, c5, c6, c7, c8, c9⟩ := HC.out _ hSw; clear hSw; go_simp⟩) hHeld ?_
  try simp only [Act.put]
  try simp only [List.getElem_toArray]
  try simp only [List.getElem_cons_succ]
  try simp only [List.getElem_cons_zero]
  try simp only [List.setIfInBounds_toArray]
  try simp only [List.set_cons_succ, List.set_cons_zero]
  refine wpAnyH_take (i := 6) (v := .int .i64 (tx.length : Int)) rfl (by kernel_rfl) (by kernel_rfl) (by kernel_rfl) (fun _ _ _ h => h) (Or.inl ⟨by kernel_rfl, fun w1 hSw => by clear hHeld; obtain ⟨c0, c1, c2, c3, c4, c5, c6, c7, c8, c9⟩ := HC.out _ hSw; clear hSw; go_simp⟩) hHeld ?_
  try simp only [Act.put]
  try simp only [List.getElem_toArray]
  try simp only [List.getElem_cons_succ]
  try simp only [List.getElem_cons_zero]
  try simp only [List.setIfInBounds_toArray]
  try simp only [List.set_cons_succ, List.set_cons_zero]
  refine wpAnyH_ready (rs := [3]) (by kernel_rfl) (by simp) ?_
  refine AllReadyH.cons rfl (fun K hK => ?_) AllReadyH.nil
  go_simp
  refine (dnum_any x (by omega) _).mono ?_
  rintro e w0 ⟨rfl, hB0⟩
  refine hK.out _ _ (Below.trans hHeld (hB0.mono hHeld.size)) (fun hHeld => ?_)
  clear hK K
  try simp only [Act.put]
  try simp only [List.getElem_toArray]
  try simp only [List.getElem_cons_succ]
  try simp only [List.getElem_cons_zero]
  try simp only [List.setIfInBounds_toArray]
  try simp only [List.set_cons_succ, List.set_cons_zero]
  refine wpAnyH_ready (rs := [7]) (by kernel_rfl) (by simp) ?_
  refine AllReadyH.cons rfl (fun K hK => ?_) AllReadyH.nil
  go_simp
  refine (dnum_any tx.length (by omega) _).mono ?_
  rintro e w1 ⟨rfl, hB1⟩
  refine hK.out _ _ (Below.trans hHeld (hB1.mono hHeld.size)) (fun hHeld => ?_)
  clear hK K
  try simp only [Act.put]
  try simp only [List.getElem_toArray]
  try simp only [List.getElem_cons_succ]
  try simp only [List.getElem_cons_zero]
  try simp only [List.setIfInBounds_toArray]
  try simp only [List.set_cons_succ, List.set_cons_zero]
  refine wpAnyH_take (i := 8) (v := .string ⟨(A1).toArray⟩) rfl (by kernel_rfl) (by kernel_rfl) (by kernel_rfl) (fun _ _ _ h => h) (Or.inl ⟨by kernel_rfl, fun w1 hSw => by clear hHeld; obtain ⟨c0, c1, c2, c3, c4, c5, c6, c7, c8, c9⟩ := HC.out _ hSw; clear hSw; go_simp⟩) hHeld ?_
  try simp only [Act.put]
  try simp only [List.getElem_toArray]
  try simp only [List.getElem_cons_succ]
  try simp only [List.getElem_cons_zero]
  try simp only [List.setIfInBounds_toArray]
  try simp only [List.set_cons_succ, List.set_cons_zero]
  refine wpAnyH_take (i := 9) (v := .string ⟨(A2).toArray⟩) rfl (by kernel_rfl) (by kernel_rfl) (by kernel_rfl) (fun _ _ _ h => h) (Or.inl ⟨by kernel_rfl, fun w1 hSw => by clear hHeld; obtain ⟨c0, c1, c2, c3, c4, c5, c6, c7, c8, c9⟩ := HC.out _ hSw; clear hSw; go_simp⟩) hHeld ?_
  try simp only [Act.put]
  try simp only [List.getElem_toArray]
  try simp only [List.getElem_cons_succ]
  try simp only [List.getElem_cons_zero]
  try simp only [List.setIfInBounds_toArray]
  try simp only [List.set_cons_succ, List.set_cons_zero]
  refine wpAnyH_take (i := 10) (v := .string ⟨(A2).toArray⟩) rfl (by kernel_rfl) (by kernel_rfl) (by kernel_rfl) (fun _ _ _ h => h) (Or.inl ⟨by kernel_rfl, fun w1 hSw => by clear hHeld; obtain ⟨c0, c1, c2, c3, c4, c5, c6, c7, c8, c9⟩ := HC.out _ hSw; clear hSw; go_simp⟩) hHeld ?_
  try simp only [Act.put]
  try simp only [List.getElem_toArray]
  try simp only [List.getElem_cons_succ]
  try simp only [List.getElem_cons_zero]
  try simp only [List.setIfInBounds_toArray]
  try simp only [List.set_cons_succ, List.set_cons_zero]
  refine wpAnyH_done (by kernel_rfl) ?_ _
  have HB2 := hide hHeld
  clear hHeld c0 c1 c2 c3 c4 c5 c6 c7 c8 c9
  go_wp2_with fail
  go_loopw [3, 4] (fun a s wr => ∃ (i : Nat) (A : List UInt8), i ≤ tx.length ∧ a = .string ⟨A.toArray⟩ ∧ s = .int .i64 (i : Int) ∧ Hid (A = A2 ++ Rc.layT (tx.take i)) ∧ Hid (Below W0.heap.size W0 wr)) (fun _ s _ => tx.length - (intOf s).toNat)
  case atStart => exact ⟨0, _, Nat.zero_le _, rfl, rfl, hide (by simp [Rc.layT]), HB2⟩
  case round =>
    clear HB2
    obtain ⟨i, A, hi, rfl, rfl, HA, HB⟩ := hrel
    obtain ⟨c0, c1, c2, c3, c4, c5, c6, c7, c8, c9⟩ := HC.out _ HB.out
    by_cases hii : i < tx.length
    · have hik : (i : Int) < (tx.length : Int) := by omega
      obtain ⟨tp', tc', htv, hp⟩ := HT.out _ HB.out
      have htp : some (⟨tb, to_, none⟩ : Addr) = tp' := by injection htv
      obtain ⟨tb', to', htq, hlt, hc⟩ := hp (by omega)
      rw [← htp] at htq
      injection htq with htq
      have hq1 : tb = tb' := by injection htq
      have hq2 : to_ = to' := by injection htq
      clear htq
      have ci : wr.cell? ⟨tb, to_ + i, none⟩ = some (.string tx[i]!) := by rw [hq1, hq2]; exact hc i hii
      rw [← hq1] at hlt
      clear hp htp htv hq1 hq2
      have h32 : (tx[i]!).size ≤ 32 := by rw [getElem!_pos tx i hii]; exact HSz.out _ (List.getElem_mem hii)
      have HSt := hide (layTst hii)
      have hAl : A.length ≤ 400 := by
        have h1 := hs' i
        rw [HA.out, List.length_append]; omega
      have ey := Pk.enc_ten (n := (tx[i]!).size) (by omega)
      have hsz : (tx[i]!).data.toList.length = (tx[i]!).size := by simp
      have HDt := hide (dtext_any (tx[i]!) (by omega))
      obtain ⟨T, hT⟩ : ∃ T, Pk.enc (tx[i]!).size ++ (tx[i]!).data.toList = T := ⟨_, rfl⟩
      have hTl : T.length ≤ 50 := by rw [← hT, List.length_append]; omega
      rw [hT] at HDt HSt
      have hadd3 := fun W => addS (a := A) (b := T) (by omega) W
      generalize tx[i]! = tt at *
      clear hc hT
      go_wp2_with fail
      refine (HDt.out _).mono ?_
      rintro e w5 ⟨rfl, hB5⟩
      have HB5 := hide (HB.out.trans (hB5.mono HB.out.size))
      clear hB5
      go_wp2_with fail
      go_roundw
      case rel => exact ⟨i + 1, _, by omega, rfl, by go_num, hide (by rw [HSt.out, HA.out, List.append_assoc _ (Rc.layT _)]), HB5⟩
      case measure => simp only [intOf]; omega
    · have hik : ¬ (i : Int) < (tx.length : Int) := by omega
      have he : tx.take i = tx := List.take_of_length_le (by omega)
      have HA2 := hide HA.out
      rw [he] at HA2
      have HBf := hide (HB0.out.trans (HB.out.mono HB0.out.size))
      clear HA
      go_wp2
      go_ret
      exact ⟨by rw [HRES.out, ← HA2.out]; rfl, HBf.out⟩
end Go.Proofs.Ytlgcimfbhjidgaa
end

section
namespace Go.Proofs.Ytlgcimfbhjidgaa
open Go.RowKit
open Rc (L V Ch)

/-- the document's put: a good change's bytes -/
theorem rput_any (c : Ch) (hc : Rc.check c = 0) (hrb : c.rb < 18446744073709551616) (t : Value) (w : World) (hT : Tx w t c.tx) : Calls Try.prog 27 #[.agg (chC c t)] w fun e w' => e = .returned (.string ⟨(Rc.bytes c).toArray⟩) ∧ Below w.heap.size w w' := by
  obtain ⟨⟨k1, k2⟩, hm, _⟩ := (Rc.check_iff c).1 hc
  clear hc
  obtain ⟨k, n, jo, ba, sl, li, rc, rb, pr, tx⟩ := c
  simp only at k1 k2 hm hrb hT
  have hk : k = 1 ∨ k = 2 ∨ k = 3 ∨ k = 4 ∨ k = 5 ∨ k = 6 := by omega
  rcases hk with rfl | rfl | rfl | rfl | rfl | rfl
  · have h1 := bndM (hm .N (by simp [Rc.letters]))
    simp only [Rc.least, Rc.most, Rc.sz, Rc.get] at h1
    obtain ⟨x, rfl⟩ : ∃ x : Nat, n = (x : Int) := ⟨n.toNat, by omega⟩
    have e : Rc.bytes ⟨1, (x : Int), jo, ba, sl, li, rc, rb, pr, tx⟩ = Pk.enc 1 ++ Pk.enc x := by simp [Rc.bytes, Rc.body, Rc.letters, Rc.lay, Rc.get]
    rw [e]
    exact rput1_any (by omega) t w
  · have h1 := bndM (hm .J (by simp [Rc.letters]))
    have h2 := bndM (hm .P (by simp [Rc.letters]))
    simp only [Rc.least, Rc.most, Rc.sz, Rc.get] at h1 h2
    obtain ⟨x, rfl⟩ : ∃ x : Nat, jo = (x : Int) := ⟨jo.toNat, by omega⟩
    have e : Rc.bytes ⟨2, n, (x : Int), ba, sl, li, rc, rb, pr, tx⟩ = Pk.enc 2 ++ Pk.enc x ++ (Pk.enc pr.size ++ pr.data.toList) := by simp [Rc.bytes, Rc.body, Rc.letters, Rc.lay, Rc.get]
    rw [e]
    exact rput2_any (by omega) (by omega) t w
  · have h1 := bndM (hm .J (by simp [Rc.letters]))
    have h2 := bndM (hm .B (by simp [Rc.letters]))
    have h3 := bndM (hm .S (by simp [Rc.letters]))
    have h4 := bndM (hm .F (by simp [Rc.letters]))
    simp only [Rc.least, Rc.most, Rc.sz, Rc.get] at h1 h2 h3 h4
    obtain ⟨x, rfl⟩ : ∃ x : Nat, jo = (x : Int) := ⟨jo.toNat, by omega⟩
    obtain ⟨y, rfl⟩ : ∃ x : Nat, ba = (x : Int) := ⟨ba.toNat, by omega⟩
    obtain ⟨z, rfl⟩ : ∃ x : Nat, sl = (x : Int) := ⟨sl.toNat, by omega⟩
    obtain ⟨u, rfl⟩ : ∃ x : Nat, li = (x : Int) := ⟨li.toNat, by omega⟩
    have e : Rc.bytes ⟨3, n, (x : Int), (y : Int), (z : Int), (u : Int), rc, rb, pr, tx⟩ = Pk.enc 3 ++ Pk.enc x ++ Pk.enc y ++ Pk.enc z ++ Pk.enc u := by simp [Rc.bytes, Rc.body, Rc.letters, Rc.lay, Rc.get]
    rw [e]
    exact rput3_any (by omega) (by omega) (by omega) (by omega) t w
  · have h1 := bndM (hm .B (by simp [Rc.letters]))
    have h2 := bndM (hm .T (by simp [Rc.letters]))
    have h3 := bndT (hm .T (by simp [Rc.letters]))
    simp only [Rc.least, Rc.most, Rc.sz, Rc.get] at h1 h2 h3
    obtain ⟨x, rfl⟩ : ∃ x : Nat, ba = (x : Int) := ⟨ba.toNat, by omega⟩
    have e : Rc.bytes ⟨4, n, jo, (x : Int), sl, li, rc, rb, pr, tx⟩ = Pk.enc 4 ++ (Pk.enc x ++ Pk.enc tx.length) ++ Rc.layT tx := by simp [Rc.bytes, Rc.body, Rc.letters, Rc.lay, Rc.get]
    rw [e]
    exact rput4_any (by omega) (by omega) (by omega) h3 t w hT
  · have h1 := bndM (hm .B (by simp [Rc.letters]))
    simp only [Rc.least, Rc.most, Rc.sz, Rc.get] at h1
    obtain ⟨x, rfl⟩ : ∃ x : Nat, ba = (x : Int) := ⟨ba.toNat, by omega⟩
    have e : Rc.bytes ⟨5, n, jo, (x : Int), sl, li, rc, rb, pr, tx⟩ = Pk.enc 5 ++ Pk.enc x := by simp [Rc.bytes, Rc.body, Rc.letters, Rc.lay, Rc.get]
    rw [e]
    exact rput5_any (by omega) t w
  · have h1 := bndM (hm .B (by simp [Rc.letters]))
    have h2 := bndM (hm .R (by simp [Rc.letters]))
    simp only [Rc.least, Rc.most, Rc.sz, Rc.get] at h1 h2
    obtain ⟨x, rfl⟩ : ∃ x : Nat, ba = (x : Int) := ⟨ba.toNat, by omega⟩
    obtain ⟨y, rfl⟩ : ∃ x : Nat, rc = (x : Int) := ⟨rc.toNat, by omega⟩
    have e : Rc.bytes ⟨6, n, jo, (x : Int), sl, li, (y : Int), rb, pr, tx⟩ = Pk.enc 6 ++ Pk.enc x ++ Pk.enc y ++ Pk.big8 rb := by simp [Rc.bytes, Rc.body, Rc.letters, Rc.lay, Rc.get]
    rw [e]
    exact rput6_any (by omega) (by omega) hrb t w
/-- a good change is short -/
theorem bytes_short (c : Ch) (hc : Rc.check c = 0) : (Rc.bytes c).length ≤ 1100 := by
  obtain ⟨⟨k1, k2⟩, hm, _⟩ := (Rc.check_iff c).1 hc
  clear hc
  obtain ⟨k, n, jo, ba, sl, li, rc, rb, pr, tx⟩ := c
  simp only at k1 k2 hm
  have ten : ∀ x : Int, x ≤ 1099511627776 → (Pk.enc x.toNat).length ≤ 10 := fun x hx => Pk.enc_ten (by omega)
  have hk : k = 1 ∨ k = 2 ∨ k = 3 ∨ k = 4 ∨ k = 5 ∨ k = 6 := by omega
  have t1 := Pk.enc_ten (n := 1) (by decide)
  have t2 := Pk.enc_ten (n := 2) (by decide)
  have t3 := Pk.enc_ten (n := 3) (by decide)
  have t4 := Pk.enc_ten (n := 4) (by decide)
  have t5 := Pk.enc_ten (n := 5) (by decide)
  have t6 := Pk.enc_ten (n := 6) (by decide)
  rcases hk with rfl | rfl | rfl | rfl | rfl | rfl
  · have h1 := bndM (hm .N (by simp [Rc.letters]))
    simp only [Rc.least, Rc.most, Rc.sz, Rc.get] at h1
    have a1 := ten n (by omega)
    simp [Rc.bytes, Rc.body, Rc.letters, Rc.lay, Rc.get]; omega
  · have h1 := bndM (hm .J (by simp [Rc.letters]))
    have h2 := bndM (hm .P (by simp [Rc.letters]))
    simp only [Rc.least, Rc.most, Rc.sz, Rc.get] at h1 h2
    have a1 := ten jo (by omega)
    have a2 := Pk.enc_ten (n := pr.size) (by omega)
    simp [Rc.bytes, Rc.body, Rc.letters, Rc.lay, Rc.get]; omega
  · have h1 := bndM (hm .J (by simp [Rc.letters]))
    have h2 := bndM (hm .B (by simp [Rc.letters]))
    have h3 := bndM (hm .S (by simp [Rc.letters]))
    have h4 := bndM (hm .F (by simp [Rc.letters]))
    simp only [Rc.least, Rc.most, Rc.sz, Rc.get] at h1 h2 h3 h4
    have a1 := ten jo (by omega)
    have a2 := ten ba (by omega)
    have a3 := ten sl (by omega)
    have a4 := ten li (by omega)
    simp [Rc.bytes, Rc.body, Rc.letters, Rc.lay, Rc.get]; omega
  · have h1 := bndM (hm .B (by simp [Rc.letters]))
    have h2 := bndM (hm .T (by simp [Rc.letters]))
    have h3 := bndT (hm .T (by simp [Rc.letters]))
    simp only [Rc.least, Rc.most, Rc.sz, Rc.get] at h1 h2 h3
    have a1 := ten ba (by omega)
    have a2 := Pk.enc_ten (n := tx.length) (by omega)
    have a3 := layT42 tx h3
    simp [Rc.bytes, Rc.body, Rc.letters, Rc.lay, Rc.get]; omega
  · have h1 := bndM (hm .B (by simp [Rc.letters]))
    simp only [Rc.least, Rc.most, Rc.sz, Rc.get] at h1
    have a1 := ten ba (by omega)
    simp [Rc.bytes, Rc.body, Rc.letters, Rc.lay, Rc.get]; omega
  · have h1 := bndM (hm .B (by simp [Rc.letters]))
    have h2 := bndM (hm .R (by simp [Rc.letters]))
    simp only [Rc.least, Rc.most, Rc.sz, Rc.get] at h1 h2
    have a1 := ten ba (by omega)
    have a2 := ten rc (by omega)
    have a3 : (Pk.big8 rb).length = 8 := rfl
    simp [Rc.bytes, Rc.body, Rc.letters, Rc.lay, Rc.get]; omega
end Go.Proofs.Ytlgcimfbhjidgaa
end
