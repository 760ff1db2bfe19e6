import Derived.Test.YtlaaggpfmcehaaaRcY
namespace Go.Proofs.Ytlaaggpfmcehaaa
open Go.RowKit
open Rc (L V Ch)

theorem Rw.at {w : World} {v : Value} {l : List Ch} {b off cap : Nat} (h : Rw w v l) (hv : v = .slice (some ⟨b, off, none⟩) l.length cap) {j : Nat} (hj : j < l.length) :
    ∃ pt ct, Tx w (.slice pt (l[j]!).tx.length ct) (l[j]!).tx ∧ (l[j]!).tx.length ≤ 140737488351232 ∧ (l[j]!).rb < 18446744073709551616 ∧ b < w.heap.size ∧ ∀ i u, (chC l[j]! (.slice pt (l[j]!).tx.length ct))[i]? = some u → w.cell? ⟨b, off + j * 10 + i, none⟩ = some u := by
  obtain ⟨p, cap', hv', h2⟩ := h
  obtain ⟨b', off', hp, hlt, hx⟩ := h2 (by omega)
  rw [hv] at hv'
  simp only [Value.slice.injEq] at hv'
  rw [hp] at hv'
  simp only [Option.some.injEq, Addr.mk.injEq] at hv'
  obtain ⟨⟨rfl, rfl, -⟩, -, rfl⟩ := hv'
  obtain ⟨t, ht, h1, h3, h4⟩ := hx j hj
  have hT := ht
  obtain ⟨pt, ct, rfl, -⟩ := ht
  exact ⟨pt, ct, hT, h1, h3, hlt, h4⟩
set_option maxHeartbeats 1600000 in
theorem same_any {w : World} {v v' : Value} {l m : List Ch} (h : Rw w v l) (h' : Rw w v' m) (hll : l.length ≤ 9223372036854775807) : Calls Try.prog 14 #[v, v'] w fun e w' => e = .returned (.bool (decide (l = m))) ∧ Below w.heap.size w w' := by
  have H := hide h
  have H' := hide h'
  generalize hDD : decide (l = m) = DD
  obtain ⟨p, cap, rfl, hp⟩ := h
  obtain ⟨p', cap', rfl, hp'⟩ := h'
  by_cases hlen : l.length = m.length
  case neg =>
    have bl : ((l.length : Int) != (m.length : Int)) = true := by simp; omega
    have HF : Hid (DD = false) := hide (by rw [← hDD]; exact decide_eq_false fun h => hlen (by rw [h]))
    clear H H' hp hp' hDD
    go_enter Try.func14, Try.ntmps14
    go_wp2
    go_ret
    exact ⟨by rw [HF.out]; rfl, Below.refl _ _⟩
  have bl : ((l.length : Int) != (m.length : Int)) = false := by simp; omega
  have hnot : ∀ (x : Bool) (w : World), (Op.unary .not (.bool x)).run Try.prog w = .ok (.bool (!x)) w := fun _ _ => rfl
  have HP : Hid (0 < l.length → ∃ b off, p = some ⟨b, off, none⟩ ∧ b < w.heap.size) := hide fun h => by obtain ⟨b, off, h1, h2, _⟩ := hp h; exact ⟨b, off, h1, h2⟩
  have HP' : Hid (0 < m.length → ∃ b off, p' = some ⟨b, off, none⟩ ∧ b < w.heap.size) := hide fun h => by obtain ⟨b, off, h1, h2, _⟩ := hp' h; exact ⟨b, off, h1, h2⟩
  clear hp hp'
  obtain ⟨n, hn⟩ : ∃ n, m.length = n := ⟨_, rfl⟩
  have hln : l.length = n := hlen.trans hn
  rw [hln, hn]
  rw [hln, hn] at bl
  clear hlen
  go_enter Try.func14, Try.ntmps14
  go_wp2_with fail
  go_loopw [5, 6] (fun s _ wr => ∃ k : Nat, k ≤ n ∧ s = .int .i64 (k : Int) ∧ Hid (∀ j, j < k → l[j]! = m[j]!) ∧ Hid (Below w.heap.size w wr)) (fun s _ _ => n - (intOf s).toNat)
  case atStart => exact ⟨0, Nat.zero_le _, rfl, hide (fun j h => absurd h (Nat.not_lt_zero _)), hide (Below.refl _ _)⟩
  case round =>
    obtain ⟨k, hk, rfl, HJ, HK⟩ := hrel
    by_cases hkl : k < n
    · have hki : (k : Int) < (n : Int) := by omega
      obtain ⟨b, off, rfl, hlt⟩ := HP.out (by omega)
      obtain ⟨b', off', rfl, hlt'⟩ := HP'.out (by omega)
      obtain ⟨pt, ct, hT, htl, -, -, hx⟩ := H.out.at rfl (show k < l.length by omega)
      obtain ⟨pt', ct', hT', htl', -, -, hx'⟩ := H'.out.at rfl (show k < m.length by omega)
      have hc : ∀ i u, (chC l[k]! (.slice pt (l[k]!).tx.length ct))[i]? = some u → wr.cell? ⟨b, off + k * 10 + i, none⟩ = some u := fun i u hi => (HK.out.cell (p := ⟨b, off + k * 10 + i, none⟩) hlt).trans (hx i u hi)
      have hc' : ∀ i u, (chC m[k]! (.slice pt' (m[k]!).tx.length ct'))[i]? = some u → wr.cell? ⟨b', off' + k * 10 + i, none⟩ = some u := fun i u hi => (HK.out.cell (p := ⟨b', off' + k * 10 + i, none⟩) hlt').trans (hx' i u hi)
      have HDD : Hid (l[k]! ≠ m[k]! → DD = false) := hide fun hne => by rw [← hDD]; exact decide_eq_false fun h => hne (by rw [h])
      have HJ2 : Hid (l[k]! = m[k]! → ∀ j, j < k + 1 → l[j]! = m[j]!) := hide fun he j hj => by
        rcases Nat.lt_succ_iff_lt_or_eq.mp hj with h | h
        · exact HJ.out j h
        · rw [h]; exact he
      generalize l[k]! = x at *
      generalize m[k]! = y at *
      have c0 : wr.cell? ⟨b, off + k * 10, none⟩ = some (.int .i64 x.k) := hc 0 _ rfl
      have c1 : wr.cell? ⟨b, off + k * 10 + 1, none⟩ = some (.int .i64 x.n) := hc 1 _ rfl
      have c2 : wr.cell? ⟨b, off + k * 10 + 2, none⟩ = some (.int .i64 x.jo) := hc 2 _ rfl
      have c3 : wr.cell? ⟨b, off + k * 10 + 3, none⟩ = some (.int .i64 x.ba) := hc 3 _ rfl
      have c4 : wr.cell? ⟨b, off + k * 10 + 4, none⟩ = some (.int .i64 x.sl) := hc 4 _ rfl
      have c5 : wr.cell? ⟨b, off + k * 10 + 5, none⟩ = some (.int .i64 x.li) := hc 5 _ rfl
      have c6 : wr.cell? ⟨b, off + k * 10 + 6, none⟩ = some (.int .i64 x.rc) := hc 6 _ rfl
      have c7 : wr.cell? ⟨b, off + k * 10 + 7, none⟩ = some (.int .u64 (x.rb : Int)) := hc 7 _ rfl
      have c8 : wr.cell? ⟨b, off + k * 10 + 8, none⟩ = some (.string x.pr) := hc 8 _ rfl
      have c9 : wr.cell? ⟨b, off + k * 10 + 9, none⟩ = some (.slice pt x.tx.length ct) := hc 9 _ rfl
      have d0 : wr.cell? ⟨b', off' + k * 10, none⟩ = some (.int .i64 y.k) := hc' 0 _ rfl
      have d1 : wr.cell? ⟨b', off' + k * 10 + 1, none⟩ = some (.int .i64 y.n) := hc' 1 _ rfl
      have d2 : wr.cell? ⟨b', off' + k * 10 + 2, none⟩ = some (.int .i64 y.jo) := hc' 2 _ rfl
      have d3 : wr.cell? ⟨b', off' + k * 10 + 3, none⟩ = some (.int .i64 y.ba) := hc' 3 _ rfl
      have d4 : wr.cell? ⟨b', off' + k * 10 + 4, none⟩ = some (.int .i64 y.sl) := hc' 4 _ rfl
      have d5 : wr.cell? ⟨b', off' + k * 10 + 5, none⟩ = some (.int .i64 y.li) := hc' 5 _ rfl
      have d6 : wr.cell? ⟨b', off' + k * 10 + 6, none⟩ = some (.int .i64 y.rc) := hc' 6 _ rfl
      have d7 : wr.cell? ⟨b', off' + k * 10 + 7, none⟩ = some (.int .u64 (y.rb : Int)) := hc' 7 _ rfl
      have d8 : wr.cell? ⟨b', off' + k * 10 + 8, none⟩ = some (.string y.pr) := hc' 8 _ rfl
      have d9 : wr.cell? ⟨b', off' + k * 10 + 9, none⟩ = some (.slice pt' y.tx.length ct') := hc' 9 _ rfl
      have hbl : b < wr.heap.size := Nat.lt_of_lt_of_le hlt HK.out.size
      have hbl' : b' < wr.heap.size := Nat.lt_of_lt_of_le hlt' HK.out.size
      have HS := hide fun (W : World) (hW : Below wr.heap.size wr W) => sameOne_any (a := x) (b := y) ((hT.below HK.out (Nat.le_refl _)).below hW (Nat.le_refl _)) ((hT'.below HK.out (Nat.le_refl _)).below hW (Nat.le_refl _)) htl
      simp only [chC] at HS
      have hsz := HK.out.size
      clear hc hc' hx hx' hT hT' HJ H H' HP HP'
      go_wp2_with fail
      refine wp_region_held_drew (S := fun W => Below wr.heap.size wr W) (by kernel_rfl) (Below.refl _ _).drew (fun hHeld => ?_)
      refine wpAnyH_take (i := 0) (v := .slice (some ⟨b, off, none⟩) n cap) rfl (by kernel_rfl) (by kernel_rfl) (by kernel_rfl) (fun _ _ _ h => h) (Or.inl ⟨by rfl, fun w1 hSw => by clear hHeld; go_simp⟩) hHeld ?_
      simp only [Act.put, List.setIfInBounds_toArray]
      refine wpAnyH_take (i := 1) (v := .int .i64 (k : Int)) rfl (by kernel_rfl) (by kernel_rfl) (by kernel_rfl) (fun _ _ _ h => h) (Or.inl ⟨by rfl, fun w1 hSw => by clear hHeld; go_simp⟩) hHeld ?_
      simp only [Act.put]
      refine wpAnyH_take (i := 2) (v := .pointer (some ⟨b, off + k * 10, none⟩)) rfl (by kernel_rfl) (by kernel_rfl) (by kernel_rfl) (fun _ _ _ h => h) (Or.inl ⟨by rfl, fun w1 hSw => by clear hHeld; go_simp⟩) hHeld ?_
      simp only [Act.put]
      refine wpAnyH_take (i := 3) (v := .agg #[.int .i64 x.k, .int .i64 x.n, .int .i64 x.jo, .int .i64 x.ba, .int .i64 x.sl, .int .i64 x.li, .int .i64 x.rc, .int .u64 (x.rb : Int), .string x.pr, .slice pt x.tx.length ct]) rfl (by kernel_rfl) (by kernel_rfl) (by kernel_rfl) (fun _ _ _ h => h) (Or.inl ⟨by rfl, fun w1 hSw => by clear hHeld; have q0 := (hSw.cell (p := ⟨b, off + k * 10, none⟩) hbl).trans c0; have q1 := (hSw.cell (p := ⟨b, off + k * 10 + 1, none⟩) hbl).trans c1; have q2 := (hSw.cell (p := ⟨b, off + k * 10 + 2, none⟩) hbl).trans c2; have q3 := (hSw.cell (p := ⟨b, off + k * 10 + 3, none⟩) hbl).trans c3; have q4 := (hSw.cell (p := ⟨b, off + k * 10 + 4, none⟩) hbl).trans c4; have q5 := (hSw.cell (p := ⟨b, off + k * 10 + 5, none⟩) hbl).trans c5; have q6 := (hSw.cell (p := ⟨b, off + k * 10 + 6, none⟩) hbl).trans c6; have q7 := (hSw.cell (p := ⟨b, off + k * 10 + 7, none⟩) hbl).trans c7; have q8 := (hSw.cell (p := ⟨b, off + k * 10 + 8, none⟩) hbl).trans c8; have q9 := (hSw.cell (p := ⟨b, off + k * 10 + 9, none⟩) hbl).trans c9; clear hSw HS; clear c0 c1 c2 c3 c4 c5 c6 c7 c8 c9 d0 d1 d2 d3 d4 d5 d6 d7 d8 d9; go_simp⟩) hHeld ?_
      simp only [Act.put]
      refine wpAnyH_take (i := 4) (v := .slice (some ⟨b', off', none⟩) n cap') rfl (by kernel_rfl) (by kernel_rfl) (by kernel_rfl) (fun _ _ _ h => h) (Or.inl ⟨by rfl, fun w1 hSw => by clear hHeld; go_simp⟩) hHeld ?_
      simp only [Act.put]
      refine wpAnyH_take (i := 5) (v := .int .i64 (k : Int)) rfl (by kernel_rfl) (by kernel_rfl) (by kernel_rfl) (fun _ _ _ h => h) (Or.inl ⟨by rfl, fun w1 hSw => by clear hHeld; go_simp⟩) hHeld ?_
      simp only [Act.put]
      refine wpAnyH_take (i := 6) (v := .pointer (some ⟨b', off' + k * 10, none⟩)) rfl (by kernel_rfl) (by kernel_rfl) (by kernel_rfl) (fun _ _ _ h => h) (Or.inl ⟨by rfl, fun w1 hSw => by clear hHeld; go_simp⟩) hHeld ?_
      simp only [Act.put]
      refine wpAnyH_take (i := 7) (v := .agg #[.int .i64 y.k, .int .i64 y.n, .int .i64 y.jo, .int .i64 y.ba, .int .i64 y.sl, .int .i64 y.li, .int .i64 y.rc, .int .u64 (y.rb : Int), .string y.pr, .slice pt' y.tx.length ct']) rfl (by kernel_rfl) (by kernel_rfl) (by kernel_rfl) (fun _ _ _ h => h) (Or.inl ⟨by rfl, fun w1 hSw => by clear hHeld; have q0 := (hSw.cell (p := ⟨b', off' + k * 10, none⟩) hbl').trans d0; have q1 := (hSw.cell (p := ⟨b', off' + k * 10 + 1, none⟩) hbl').trans d1; have q2 := (hSw.cell (p := ⟨b', off' + k * 10 + 2, none⟩) hbl').trans d2; have q3 := (hSw.cell (p := ⟨b', off' + k * 10 + 3, none⟩) hbl').trans d3; have q4 := (hSw.cell (p := ⟨b', off' + k * 10 + 4, none⟩) hbl').trans d4; have q5 := (hSw.cell (p := ⟨b', off' + k * 10 + 5, none⟩) hbl').trans d5; have q6 := (hSw.cell (p := ⟨b', off' + k * 10 + 6, none⟩) hbl').trans d6; have q7 := (hSw.cell (p := ⟨b', off' + k * 10 + 7, none⟩) hbl').trans d7; have q8 := (hSw.cell (p := ⟨b', off' + k * 10 + 8, none⟩) hbl').trans d8; have q9 := (hSw.cell (p := ⟨b', off' + k * 10 + 9, none⟩) hbl').trans d9; clear hSw HS; clear c0 c1 c2 c3 c4 c5 c6 c7 c8 c9 d0 d1 d2 d3 d4 d5 d6 d7 d8 d9; go_simp⟩) hHeld ?_
      simp only [Act.put]
      refine wpAnyH_ready (rs := [8]) (by kernel_rfl) (by simp) ?_
      refine AllReadyH.cons rfl (fun KK hK => ?_) AllReadyH.nil
      go_simp
      refine (HS.out _ (Below.refl _ _).drew).mono ?_
      rintro e w2 ⟨rfl, hb2⟩
      have hb3 : Below wr.heap.size wr w2 := (Below.refl _ _).drew.trans hb2
      have HB3 := hide (HK.out.trans (hb3.mono hsz))
      refine hK.out _ _ hb3 (fun hHeld => ?_)
      generalize hq : decide (x = y) = Q at *
      refine wpAnyH_take (i := 9) (v := .bool Q) rfl (by kernel_rfl) (by kernel_rfl) (by kernel_rfl) (fun _ _ _ h => h) (Or.inl ⟨by rfl, fun w1 hSw => by clear hHeld; go_simp⟩) hHeld ?_
      simp only [Act.put]
      refine wpAnyH_done (by kernel_rfl) ?_ _
      clear HS hb2 hb3 c0 c1 c2 c3 c4 c5 c6 c7 c8 c9 d0 d1 d2 d3 d4 d5 d6 d7 d8 d9
      cases Q
      · have HF : Hid (DD = false) := hide (HDD.out (of_decide_eq_false hq))
        clear HDD HJ2 hDD hq
        go_wp2
        go_ret
        exact ⟨by rw [HF.out]; rfl, HB3.out⟩
      · have HJ3 := hide (HJ2.out (of_decide_eq_true hq))
        clear HDD HJ2 hq
        go_wp2
        go_roundw
        case rel => exact ⟨k + 1, by omega, by go_num, HJ3, HB3⟩
        case measure => simp [intOf]; omega
    · obtain rfl : k = n := by omega
      have hki : ¬ (k : Int) < (k : Int) := by omega
      have HF : Hid (DD = true) := hide (by rw [← hDD]; exact decide_eq_true (list_eq_of (by omega) (by rw [hln]; exact HJ.out)))
      clear HJ hDD
      go_wp2
      go_ret
      exact ⟨by rw [HF.out]; rfl, HK.out⟩
end Go.Proofs.Ytlaaggpfmcehaaa
