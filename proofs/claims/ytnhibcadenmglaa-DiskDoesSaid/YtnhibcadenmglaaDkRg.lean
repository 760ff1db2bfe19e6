import Derived.Test.YtnhibcadenmglaaDkRf
namespace Go.Proofs.Ytnhibcadenmglaa
open Go.RowKit

theorem one_new (w : World) (v : Value) (t : TypeId) : ∀ j u, [v][j]? = some u → (w.alloc (.cells #[v] t)).cell? ((⟨w.heap.size, 0, none⟩ : Addr).add j) = some u := by
  intro j u hj
  match j, hj with
  | 0, hj => simp at hj; subst hj; simp [Addr.add]

set_option maxHeartbeats 400000 in
set_option maxRecDepth 8000 in
theorem noughts_any (w : World) : Calls Try.prog 29 #[] w fun e w' => e = .returned (.string zsec) ∧ Below w.heap.size w w' := by
  obtain ⟨i0, hi0, hz0, hz1, hz2⟩ := info_parts Try.infoB
  have hmk : (Instr.makeSlice 72 (.int .i64 128) (.int .i64 128)).run Try.prog w = .ok (.slice (some ⟨w.heap.size, 0, none⟩) 128 128) (w.alloc (.cells (Array.replicate 128 (.int .u8 0)) 5)) := by
    have := run_make (P := Try.prog) w 72 5 i0 _ Try.underlying72 hi0 hz0 .i64 .i64 128 128 (by decide) (Int.le_refl _) (by rw [hz2]; decide) (by decide)
    rw [show ((128 : Int)).toNat = 128 from rfl, hz1, made_u8] at this
    exact this
  have hcv := conv_zeros 128 w
  generalize hA : (Array.replicate 128 (Value.int .u8 0)) = X at hmk hcv
  generalize hZ : (⟨Array.replicate 128 0⟩ : ByteArray) = Z at hcv
  have HZ : Hid (zsec = Z) := hZ
  clear hA hZ hi0 hz0 hz1 hz2 i0
  go_enter Try.func29, Try.ntmps29
  go_wp2_with fail
  go_ret
  exact ⟨by rw [HZ.out]; rfl, (Below.refl _ w).alloc (Nat.le_refl _) _⟩

set_option maxHeartbeats 1000000 in
set_option maxRecDepth 8000 in
theorem rnew_yes {w : World} {n : Nat} (h0 : 1 ≤ n) (h1 : n ≤ 1026) :
    Calls Try.prog 10 #[.int .i64 (n : Int)] w fun e w' => ∃ c G, e = .returned (.tuple #[.pointer (some ⟨c, 0, none⟩), .int .i64 0]) ∧ Rk w.heap.size w' c G (fresh (List.replicate n zsec)) ∧ Below w.heap.size w w' := by
  obtain ⟨iS, hiS, zS0, zS1, zS2⟩ := info_parts Try.infoS
  have a0 : decide ((n : Int) < 1) = false := by simp; omega
  have a1 : decide ((1026 : Int) < (n : Int)) = false := by simp; omega
  go_enter Try.func10, Try.ntmps10
  go_wp2_with fail
  go_loopw [5] (fun u wr => ∃ (i : Nat) (ad : Option Addr) (cap : Nat), u = .int .i64 (i : Int) ∧ i ≤ n ∧ Hid (wr.heap[w.heap.size]? = some (.cells #[.slice ad i cap, .slice none 0 0, .int .i64 0, .int .i64 0, .bool false] 65 (0, 0))) ∧ Hid (wr.ownsRow w.heap.size 9 1 (.slice ad i cap) i ((List.replicate i zsec).map .string)) ∧ Hid ((Value.slice ad i cap).ownBlock ≠ some w.heap.size) ∧ Hid (Below w.heap.size w wr)) (fun u _ => (n - (intOf u).toNat))
  case atStart => exact ⟨0, none, 0, rfl, Nat.zero_le _, heap_alloc_new w _, World.ownsRow_nil _ _ _ _, by simp [Value.ownBlock, Hid], (Below.refl _ w).alloc (Nat.le_refl _) _⟩
  case round =>
    obtain ⟨i, ad, cap, rfl, hi, HK, HO, HA, HB⟩ := hrel
    by_cases hil : i < n
    · have c0 : wr.cell? ⟨w.heap.size, 0, none⟩ = some (.slice ad i cap) := by have := HK.out; simp [World.cell?, this]
      have hsz : w.heap.size < wr.heap.size := lt_of_block HK.out
      have KN : Hid (∀ w1, Below wr.heap.size wr w1 → w1.cell? ⟨w.heap.size, 0, none⟩ = some (.slice ad i cap) ∧ w1.heap[w.heap.size]? = some (.cells #[.slice ad i cap, .slice none 0 0, .int .i64 0, .int .i64 0, .bool false] 65 (0, 0)) ∧ w1.ownsRow w.heap.size 9 1 (.slice ad i cap) i ((List.replicate i zsec).map .string) ∧ Below w.heap.size w w1) := fun w1 hb => by
        have e := (hb.block _ hsz).trans HK.out
        exact ⟨by simp [World.cell?, e], e, own_keep HO.out (fun k hk => hb.block k (HO.out.lt k hk).2), HB.out.trans (below_up hb (Nat.le_of_lt hsz))⟩
      have b0 : decide ((i : Int) < (n : Int)) = true := by simp; omega
      have HNO := hide (noughts_any wr.drew)
      generalize hzz : zsec = ZZ at *
      have HZZ := hide hzz
      clear hzz
      go_wp2_with fail
      refine wp_region_held_drew (S := fun _ => True) (by kernel_rfl) trivial (fun hHeld => ?_)
      refine wpAnyH_take (i := 0) (v := (.pointer (some ⟨w.heap.size, 0, none⟩))) rfl (by kernel_rfl) (by kernel_rfl) (by kernel_rfl) (fun _ _ _ h => h) (Or.inl ⟨by rfl, fun w1 hSw => by clear hHeld; go_simp⟩) hHeld ?_
      simp only [Act.put, List.setIfInBounds_toArray]
      refine wpAnyH_take (i := 1) (v := (.pointer (some ⟨w.heap.size, 0, none⟩))) rfl (by kernel_rfl) (by kernel_rfl) (by kernel_rfl) (fun _ _ _ h => h) (Or.inl ⟨by rfl, fun w1 hSw => by clear hHeld; go_simp⟩) hHeld ?_
      simp only [Act.put]
      refine wpAnyH_take (i := 2) (v := (.pointer (some ⟨w.heap.size, 0, none⟩))) rfl (by kernel_rfl) (by kernel_rfl) (by kernel_rfl) (fun _ _ _ h => h) (Or.inl ⟨by rfl, fun w1 hSw => by clear hHeld; go_simp⟩) hHeld ?_
      simp only [Act.put]
      refine wpAnyH_take (i := 3) (v := (.pointer (some ⟨w.heap.size, 0, none⟩))) rfl (by kernel_rfl) (by kernel_rfl) (by kernel_rfl) (fun _ _ _ h => h) (Or.inl ⟨by rfl, fun w1 hSw => by clear hHeld; go_simp⟩) hHeld ?_
      simp only [Act.put]
      refine wpAnyH_ready (rs := [4, 5]) (by kernel_rfl) (by simp) ?_
      refine AllReadyH.cons rfl (fun K hK => ?_) (AllReadyH.cons rfl (fun K hK => ?_) AllReadyH.nil)
      · go_simp
        refine hK.out _ _ trivial (fun hHeld => ?_)
        try simp only [Act.put]
        clear hK K
        refine wpAnyH_ready (rs := [5]) (by kernel_rfl) (by simp) ?_
        refine AllReadyH.cons rfl (fun K hK => ?_) AllReadyH.nil
        go_simp
        refine HNO.out.mono ?_
        rintro e w5 ⟨rfl, hb5⟩
        obtain ⟨k0, k1, k2, k3⟩ := KN.out w5 (below_drew hb5)
        have HK1 := hide k1
        have HK2 := hide k2
        have HK3 := hide k3
        have HS5 : Hid (w.heap.size < w5.heap.size) := lt_of_block k1
        clear k1 k2 k3 hb5
        refine hK.out _ _ trivial (fun hHeld => ?_)
        try simp only [Act.put]
        clear hK K
        refine wpAnyH_ready (rs := [6]) (by kernel_rfl) (by simp) ?_
        refine AllReadyH.cons rfl (fun K hK => ?_) AllReadyH.nil
        go_simp
        refine hK.out _ _ trivial (fun hHeld => ?_)
        try simp only [Act.put]
        clear hK K
        refine wpAnyH_ready (rs := [7]) (by kernel_rfl) (by simp) ?_
        refine AllReadyH.cons rfl (fun K hK => ?_) AllReadyH.nil
        refine step_append_lies _ rfl (.tmp 23) (.tmp 25) 35 rfl w.heap.size 9 iS (.string ByteArray.empty) 1 16 Try.underlying35 hiS zS0 zS1 zS2 rfl (by decide) (.slice ad i cap) i ((List.replicate i ZZ).map .string) rfl (HK2.out.alloc _) ⟨w5.heap.size, 0, none⟩ 1 1 [.string ZZ] rfl rfl (one_new _ _ _) (by intro u hu; simp at hu; subst hu; rfl) (by decide) (by unfold maxLen; omega) (by omega) (by rw [World.size_alloc]; have := HK3.out.size; omega) _ rfl ?_
        intro g9 cap9 w9 hown9 hgrow9 hat9 _
        have hblk9 : w9.heap[w.heap.size]? = some (.cells #[.slice ad i cap, .slice none 0 0, .int .i64 0, .int .i64 0, .bool false] 65 (0, 0)) := ((hgrow9.block _ (by rw [World.size_alloc]; have := HS5.out; omega) (fun e => HA.out e.symm)).trans (Below.heap_alloc _ _ _ HS5.out)).trans HK1.out
        have HB9 : Hid (Below w.heap.size w w9) := (HK3.out.alloc HK3.out.size _).grown hgrow9 (by rw [World.size_alloc]; have := HS5.out; omega) (fun k hk => (HK2.out.lt k hk).1)
        have hg9 : g9 ≠ w.heap.size := by
          rcases hat9 with e | e
          · exact fun e2 => HA.out (by rw [e, e2])
          · rw [World.size_alloc] at e; have := HS5.out; omega
        have HBL9 := hide hblk9
        have HO9 := hide hown9
        have HG9 := hide hg9
        have x0 : w9.cell? ⟨w.heap.size, 0, none⟩ = some (.slice ad i cap) := by simp [World.cell?, hblk9]
        have xz : w9.frozen? ⟨w.heap.size, 0, none⟩ = false := by simp [World.frozen?, hblk9]
        clear hown9 hgrow9 hat9 hblk9 hg9 k0
        refine hK.out _ _ trivial (fun hHeld => ?_)
        try simp only [Act.put]
        clear hK K
        refine wpAnyH_take (i := 8) (v := (.pointer (some ⟨w.heap.size, 0, none⟩))) rfl (by kernel_rfl) (by kernel_rfl) (by kernel_rfl) (fun _ _ _ h => h) (Or.inl ⟨by rfl, fun w1 hSw => by clear hHeld; go_simp⟩) hHeld ?_
        simp only [Act.put]
        refine wpAnyH_take (i := 9) (v := (.pointer (some ⟨w.heap.size, 0, none⟩))) rfl (by kernel_rfl) (by kernel_rfl) (by kernel_rfl) (fun _ _ _ h => h) (Or.inl ⟨by rfl, fun w1 hSw => by clear hHeld; go_simp⟩) hHeld ?_
        simp only [Act.put]
        refine wpAnyH_ready (rs := [10]) (by kernel_rfl) (by simp) ?_
        refine AllReadyH.cons rfl (fun K hK => ?_) AllReadyH.nil
        go_simp
        refine hK.out _ _ trivial (fun hHeld => ?_)
        clear hK K
        refine wpAnyH_done (by kernel_rfl) ?_ _
        clear hHeld x0 xz
        go_wp2_with fail
        refine ⟨⟨i + 1, some ⟨g9, 0, none⟩, cap9, by go_num, by omega, ?_, ?_, ?_, ?_⟩, by simp [intOf]; omega⟩
        · rw [setFive HBL9.out 0 _]; rfl
        · rw [List.replicate_succ', List.map_append]
          exact own_keep HO9.out (fun k hk => Below.heap_setCell _ _ _ k (fun e => HG9.out (by simp only [Value.ownBlock] at hk; injection hk with hk; exact hk.trans e)))
        · intro e; simp only [Value.ownBlock] at e; injection e with e; exact HG9.out e
        · exact HB9.out.setCell (Nat.le_refl _) _
      · go_simp
        refine HNO.out.mono ?_
        rintro e w5 ⟨rfl, hb5⟩
        obtain ⟨k0, k1, k2, k3⟩ := KN.out w5 (below_drew hb5)
        have HK1 := hide k1
        have HK2 := hide k2
        have HK3 := hide k3
        have HS5 : Hid (w.heap.size < w5.heap.size) := lt_of_block k1
        clear k1 k2 k3 hb5
        refine hK.out _ _ trivial (fun hHeld => ?_)
        try simp only [Act.put]
        clear hK K
        refine wpAnyH_ready (rs := [4, 6]) (by kernel_rfl) (by simp) ?_
        refine AllReadyH.cons rfl (fun K hK => ?_) (AllReadyH.cons rfl (fun K hK => ?_) AllReadyH.nil)
        · go_simp
          refine hK.out _ _ trivial (fun hHeld => ?_)
          try simp only [Act.put]
          clear hK K
          refine wpAnyH_ready (rs := [6]) (by kernel_rfl) (by simp) ?_
          refine AllReadyH.cons rfl (fun K hK => ?_) AllReadyH.nil
          go_simp
          refine hK.out _ _ trivial (fun hHeld => ?_)
          try simp only [Act.put]
          clear hK K
          refine wpAnyH_ready (rs := [7]) (by kernel_rfl) (by simp) ?_
          refine AllReadyH.cons rfl (fun K hK => ?_) AllReadyH.nil
          refine step_append_lies _ rfl (.tmp 23) (.tmp 25) 35 rfl w.heap.size 9 iS (.string ByteArray.empty) 1 16 Try.underlying35 hiS zS0 zS1 zS2 rfl (by decide) (.slice ad i cap) i ((List.replicate i ZZ).map .string) rfl (HK2.out.alloc _) ⟨w5.heap.size, 0, none⟩ 1 1 [.string ZZ] rfl rfl (one_new _ _ _) (by intro u hu; simp at hu; subst hu; rfl) (by decide) (by unfold maxLen; omega) (by omega) (by rw [World.size_alloc]; have := HK3.out.size; omega) _ rfl ?_
          intro g9 cap9 w9 hown9 hgrow9 hat9 _
          have hblk9 : w9.heap[w.heap.size]? = some (.cells #[.slice ad i cap, .slice none 0 0, .int .i64 0, .int .i64 0, .bool false] 65 (0, 0)) := ((hgrow9.block _ (by rw [World.size_alloc]; have := HS5.out; omega) (fun e => HA.out e.symm)).trans (Below.heap_alloc _ _ _ HS5.out)).trans HK1.out
          have HB9 : Hid (Below w.heap.size w w9) := (HK3.out.alloc HK3.out.size _).grown hgrow9 (by rw [World.size_alloc]; have := HS5.out; omega) (fun k hk => (HK2.out.lt k hk).1)
          have hg9 : g9 ≠ w.heap.size := by
            rcases hat9 with e | e
            · exact fun e2 => HA.out (by rw [e, e2])
            · rw [World.size_alloc] at e; have := HS5.out; omega
          have HBL9 := hide hblk9
          have HO9 := hide hown9
          have HG9 := hide hg9
          have x0 : w9.cell? ⟨w.heap.size, 0, none⟩ = some (.slice ad i cap) := by simp [World.cell?, hblk9]
          have xz : w9.frozen? ⟨w.heap.size, 0, none⟩ = false := by simp [World.frozen?, hblk9]
          clear hown9 hgrow9 hat9 hblk9 hg9 k0
          refine hK.out _ _ trivial (fun hHeld => ?_)
          try simp only [Act.put]
          clear hK K
          refine wpAnyH_take (i := 8) (v := (.pointer (some ⟨w.heap.size, 0, none⟩))) rfl (by kernel_rfl) (by kernel_rfl) (by kernel_rfl) (fun _ _ _ h => h) (Or.inl ⟨by rfl, fun w1 hSw => by clear hHeld; go_simp⟩) hHeld ?_
          simp only [Act.put]
          refine wpAnyH_take (i := 9) (v := (.pointer (some ⟨w.heap.size, 0, none⟩))) rfl (by kernel_rfl) (by kernel_rfl) (by kernel_rfl) (fun _ _ _ h => h) (Or.inl ⟨by rfl, fun w1 hSw => by clear hHeld; go_simp⟩) hHeld ?_
          simp only [Act.put]
          refine wpAnyH_ready (rs := [10]) (by kernel_rfl) (by simp) ?_
          refine AllReadyH.cons rfl (fun K hK => ?_) AllReadyH.nil
          go_simp
          refine hK.out _ _ trivial (fun hHeld => ?_)
          clear hK K
          refine wpAnyH_done (by kernel_rfl) ?_ _
          clear hHeld x0 xz
          go_wp2_with fail
          refine ⟨⟨i + 1, some ⟨g9, 0, none⟩, cap9, by go_num, by omega, ?_, ?_, ?_, ?_⟩, by simp [intOf]; omega⟩
          · rw [setFive HBL9.out 0 _]; rfl
          · rw [List.replicate_succ', List.map_append]
            exact own_keep HO9.out (fun k hk => Below.heap_setCell _ _ _ k (fun e => HG9.out (by simp only [Value.ownBlock] at hk; injection hk with hk; exact hk.trans e)))
          · intro e; simp only [Value.ownBlock] at e; injection e with e; exact HG9.out e
          · exact HB9.out.setCell (Nat.le_refl _) _
        · go_simp
          refine hK.out _ _ trivial (fun hHeld => ?_)
          try simp only [Act.put]
          clear hK K
          have k0' : ∀ o, (w5.alloc o).cell? ⟨w.heap.size, 0, none⟩ = some (.slice ad i cap) := fun o => Lib.cell?_alloc_some o k0
          refine wpAnyH_ready (rs := [4]) (by kernel_rfl) (by simp) ?_
          refine AllReadyH.cons rfl (fun K hK => ?_) AllReadyH.nil
          go_simp
          refine hK.out _ _ trivial (fun hHeld => ?_)
          try simp only [Act.put]
          clear hK K
          refine wpAnyH_ready (rs := [7]) (by kernel_rfl) (by simp) ?_
          refine AllReadyH.cons rfl (fun K hK => ?_) AllReadyH.nil
          refine step_append_lies _ rfl (.tmp 23) (.tmp 25) 35 rfl w.heap.size 9 iS (.string ByteArray.empty) 1 16 Try.underlying35 hiS zS0 zS1 zS2 rfl (by decide) (.slice ad i cap) i ((List.replicate i ZZ).map .string) rfl (HK2.out.alloc _) ⟨w5.heap.size, 0, none⟩ 1 1 [.string ZZ] rfl rfl (one_new _ _ _) (by intro u hu; simp at hu; subst hu; rfl) (by decide) (by unfold maxLen; omega) (by omega) (by rw [World.size_alloc]; have := HK3.out.size; omega) _ rfl ?_
          intro g9 cap9 w9 hown9 hgrow9 hat9 _
          have hblk9 : w9.heap[w.heap.size]? = some (.cells #[.slice ad i cap, .slice none 0 0, .int .i64 0, .int .i64 0, .bool false] 65 (0, 0)) := ((hgrow9.block _ (by rw [World.size_alloc]; have := HS5.out; omega) (fun e => HA.out e.symm)).trans (Below.heap_alloc _ _ _ HS5.out)).trans HK1.out
          have HB9 : Hid (Below w.heap.size w w9) := (HK3.out.alloc HK3.out.size _).grown hgrow9 (by rw [World.size_alloc]; have := HS5.out; omega) (fun k hk => (HK2.out.lt k hk).1)
          have hg9 : g9 ≠ w.heap.size := by
            rcases hat9 with e | e
            · exact fun e2 => HA.out (by rw [e, e2])
            · rw [World.size_alloc] at e; have := HS5.out; omega
          have HBL9 := hide hblk9
          have HO9 := hide hown9
          have HG9 := hide hg9
          have x0 : w9.cell? ⟨w.heap.size, 0, none⟩ = some (.slice ad i cap) := by simp [World.cell?, hblk9]
          have xz : w9.frozen? ⟨w.heap.size, 0, none⟩ = false := by simp [World.frozen?, hblk9]
          clear hown9 hgrow9 hat9 hblk9 hg9 k0
          refine hK.out _ _ trivial (fun hHeld => ?_)
          try simp only [Act.put]
          clear hK K
          refine wpAnyH_take (i := 8) (v := (.pointer (some ⟨w.heap.size, 0, none⟩))) rfl (by kernel_rfl) (by kernel_rfl) (by kernel_rfl) (fun _ _ _ h => h) (Or.inl ⟨by rfl, fun w1 hSw => by clear hHeld; go_simp⟩) hHeld ?_
          simp only [Act.put]
          refine wpAnyH_take (i := 9) (v := (.pointer (some ⟨w.heap.size, 0, none⟩))) rfl (by kernel_rfl) (by kernel_rfl) (by kernel_rfl) (fun _ _ _ h => h) (Or.inl ⟨by rfl, fun w1 hSw => by clear hHeld; go_simp⟩) hHeld ?_
          simp only [Act.put]
          refine wpAnyH_ready (rs := [10]) (by kernel_rfl) (by simp) ?_
          refine AllReadyH.cons rfl (fun K hK => ?_) AllReadyH.nil
          go_simp
          refine hK.out _ _ trivial (fun hHeld => ?_)
          clear hK K
          refine wpAnyH_done (by kernel_rfl) ?_ _
          clear hHeld x0 xz
          go_wp2_with fail
          refine ⟨⟨i + 1, some ⟨g9, 0, none⟩, cap9, by go_num, by omega, ?_, ?_, ?_, ?_⟩, by simp [intOf]; omega⟩
          · rw [setFive HBL9.out 0 _]; rfl
          · rw [List.replicate_succ', List.map_append]
            exact own_keep HO9.out (fun k hk => Below.heap_setCell _ _ _ k (fun e => HG9.out (by simp only [Value.ownBlock] at hk; injection hk with hk; exact hk.trans e)))
          · intro e; simp only [Value.ownBlock] at e; injection e with e; exact HG9.out e
          · exact HB9.out.setCell (Nat.le_refl _) _
    · have ei : n = i := by omega
      subst ei
      go_wp2_with fail
      go_ret2
      have hO := HO.out
      obtain ⟨ab, hr⟩ := (Rs.own hO).2
      have ea := hr.at_ (by rw [List.length_replicate]; omega)
      subst ea
      have hab := hO.lt ab rfl
      have hne : ab ≠ w.heap.size := fun e => HA.out (by rw [← e]; rfl)
      refine ⟨_, _, rfl, ⟨some ⟨ab, 0, none⟩, cap, ab, none, 0, 0, ⟨?_, Nat.le_refl _, hr, Rw.nil _, hne, fun h => absurd h (by simp [fresh]), hab.1, fun h => absurd h (by simp [fresh]), fresh_ok (rep_128 n) (by rw [List.length_replicate]; exact h0) (by rw [List.length_replicate]; exact h1)⟩, rfl⟩, HB.out⟩
      rw [HK.out]
      show some (Obj.cells _ _ _) = some (Obj.cells #[.slice _ (List.replicate n zsec).length _, _, _, _, _] _ _)
      rw [List.length_replicate]
      rfl
end Go.Proofs.Ytnhibcadenmglaa
