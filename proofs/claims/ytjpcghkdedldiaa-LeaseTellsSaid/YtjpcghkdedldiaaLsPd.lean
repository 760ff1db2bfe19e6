import Derived.Test.YtjpcghkdedldiaaLsPc
namespace Go.Proofs.Ytjpcghkdedldiaa
open Go.RowKit

theorem place10_any {w : World} {n : Int} (h : I6 n) : Calls Try.prog 12 #[.int .i64 n, .int .i64 10] w fun e w' => e = .returned (.int .i64 (pl n 10 : Int)) ∧ w' = w := by
  have h1 := place_any (w := w) (n := n) (m := 10) (by decide) (by decide) h
  rw [show ((10 : Nat) : Int) = 10 from rfl] at h1
  exact h1

set_option maxRecDepth 100000 in
set_option maxHeartbeats 4000000 in
theorem answers_5 {w : World} {T : Int} {s : Sc} (h : Pr T w s) (o : Lo) (hI : I6 o.job) (hk : o.kind = 5) : Calls Try.prog 13 #[.agg #[.pointer (some ⟨s.b, 0, none⟩), .pointer (some ⟨s.x, 0, none⟩)], o.val] w fun e w' => e = .returned (.bool true) ∧ Pr T w' { s with L := dsL T s.L o } ∧ Two s.m s.x w w' := by
  have hltm := h.ta.tb.map.lt
  have hltx := h.xa.lt
  have HL : Hid (dsL T s.L o = s.L) := by show _ = _; unfold dsL; rw [if_neg (by rw [hk]; decide), if_neg (by rw [hk]; decide), if_neg (by rw [hk]; decide), if_neg (by rw [hk]; decide)]
  have n0 : (o.kind == 0) = false := by rw [hk]; decide
  have n1 : (o.kind == 1) = false := by rw [hk]; decide
  have n2 : (o.kind == 2) = false := by rw [hk]; decide
  have n3 : (o.kind == 3) = false := by rw [hk]; decide
  have n4 : (o.kind == 4) = false := by rw [hk]; decide
  have n5 : (o.kind == 5) = true := by rw [hk]; decide
  have HBW : Hid (Below w.heap.size w ((w.alloc (.cells #[.pointer (some ⟨s.b, 0, none⟩), .pointer (some ⟨s.x, 0, none⟩)] 32)).alloc o.obj)) := (below_alloc w _).alloc (by simp) _
  have HP := hide (h.below HBW.out)
  have HBO := hide (bo_new w s o)
  clear h hk
  go_enter Try.func13, Try.ntmps13
  have oo1 := HBO.out.o1
  go_wp2_with fail
  clear oo1
  have hSZ : ((w.alloc (.cells #[.pointer (some ⟨s.b, 0, none⟩), .pointer (some ⟨s.x, 0, none⟩)] 32)).alloc o.obj).heap.size = w.heap.size + 2 := by simp
  generalize (w.alloc (.cells #[.pointer (some ⟨s.b, 0, none⟩), .pointer (some ⟨s.x, 0, none⟩)] 32)).alloc o.obj = W2 at *
  have a0 := HBO.out.p0
  have a2 := HBO.out.o2
  have hpl := pl_lt (n := o.job) (m := 10) (by decide)
  go_wp2_with fail
  refine (place10_any hI).mono ?_
  rintro e w3 ⟨rfl, rfl⟩
  generalize pl o.job 10 = n at *
  go_wp2_with fail
  refine (lall_any HP.out.ta.tb HP.out.ta.ok.len12 n).mono ?_
  rintro e w4 ⟨v4, rfl, ho4, hb4⟩
  obtain ⟨ad4, cap4, hv4⟩ := own_slice ho4
  subst hv4
  have HP4 := hide (HP.out.below hb4)
  have HBO4 := hide (HBO.out.below hb4)
  have HBW4 : Hid (Below w.heap.size w w4) := below_of HBW.out hb4
  have HO4 := hide ho4
  clear ho4 hb4 a0 a2 HP HBO HBW hSZ
  obtain ⟨adX, abX, capX, hX⟩ := HP4.out.xa
  have HPD := hide HP4.out.drew
  have HBD : Hid (Bo w.heap.size s o w4.drew) := ⟨HBO4.out.p0, HBO4.out.p1, HBO4.out.o0, HBO4.out.o1, HBO4.out.o2, HBO4.out.o3, HBO4.out.o4, HBO4.out.o5⟩
  have HBW5 : Hid (Below w.heap.size w w4.drew) := HBW4.out.drew
  have c1 : w4.drew.cell? ⟨s.x, 1, none⟩ = some (.slice adX s.L.length capX) := hX.c1
  obtain ⟨k, hk⟩ : ∃ k, k = min n s.L.length := ⟨_, rfl⟩
  have hkI : min (n : Int) (s.L.length : Int) = (k : Int) := by omega
  have hkc : k ≤ capX := by have := hX.hc; omega
  have htk : (s.L.take n).length = k := by rw [List.length_take]; exact hk.symm
  have htk2 : s.L.take k = s.L.take n := by
    rw [hk]
    rcases Nat.le_total n s.L.length with h | h
    · rw [Nat.min_eq_left h]
    · rw [Nat.min_eq_right h, List.take_length, List.take_of_length_le h]
  have hcut := fun W => cut_any W adX abX k s.L.length capX hkc (by
    rcases hX.ha with h | h
    · exact .inl ⟨h, by have := hX.rs.none h; omega⟩
    · exact .inr h)
  have hcut2 := fun W => cut_at2 W adX abX k s.L.length capX hkc (by
    rcases hX.ha with h | h
    · exact .inl ⟨h, by have := hX.rs.none h; omega⟩
    · exact .inr h)
  have hRk : Rs w4.drew adX abX 0 (s.L.take n) := by
    refine ⟨fun h0 => hX.rs.at_ (by rw [List.length_take] at h0; omega), fun i hi q hq => ?_⟩
    have := hX.rs.c i (by rw [List.length_take] at hi; omega) q hq
    rw [List.getElem_take]
    exact this
  obtain ⟨ab4, hR4, _⟩ := Rs.own HO4.out
  have HSM0 := hide (same_self (w := w4.drew) (cap := cap4) (cap' := capX) (hR4.keep fun _ => rfl) hRk (by omega))
  have HSM : Hid (Calls Try.prog 17 #[.slice ad4 k cap4, .slice adX k capX] w4.drew fun e w' => e = .returned (.bool true) ∧ Below w4.drew.heap.size w4.drew w') := by
    have := HSM0.out
    rw [htk] at this
    exact this
  rw [htk]
  clear HSM0 hRk hR4 hX hk hkc htk htk2 HO4
  go_wp2_with fail
  refine wp_region_held_drew (S := (fun w' => Bo w.heap.size s o w' ∧ w'.cell? ⟨s.x, 1, none⟩ = some (.slice adX s.L.length capX))) (by kernel_rfl) (⟨HBD.out, c1⟩) (fun hHeld => ?_)
  refine wpAnyH_take (i := 0) (v := (.bool true)) rfl (by kernel_rfl) (by kernel_rfl) (by kernel_rfl) (fun _ _ _ h => h) (Or.inl ⟨by kernel_rfl, fun w1 hSw => by clear hHeld; obtain ⟨⟨s0, s1, s2, s3, s4, s5, s6, s7⟩, s8⟩ := hSw; clear c1; go_simp⟩) hHeld ?_
  simp only [Act.put, List.setIfInBounds_toArray]
  refine wpAnyH_take (i := 1) (v := (.bool true)) rfl (by kernel_rfl) (by kernel_rfl) (by kernel_rfl) (fun _ _ _ h => h) (Or.inl ⟨by kernel_rfl, fun w1 hSw => by clear hHeld; obtain ⟨⟨s0, s1, s2, s3, s4, s5, s6, s7⟩, s8⟩ := hSw; clear c1; go_simp⟩) hHeld ?_
  try simp only [Act.put]
  refine wpAnyH_take (i := 2) (v := (.slice ad4 k cap4)) rfl (by kernel_rfl) (by kernel_rfl) (by kernel_rfl) (fun _ _ _ h => h) (Or.inl ⟨by kernel_rfl, fun w1 hSw => by clear hHeld; obtain ⟨⟨s0, s1, s2, s3, s4, s5, s6, s7⟩, s8⟩ := hSw; clear c1; go_simp⟩) hHeld ?_
  try simp only [Act.put]
  refine wpAnyH_take (i := 3) (v := (.pointer (some ⟨w.heap.size, 1, none⟩))) rfl (by kernel_rfl) (by kernel_rfl) (by kernel_rfl) (fun _ _ _ h => h) (Or.inl ⟨by kernel_rfl, fun w1 hSw => by clear hHeld; obtain ⟨⟨s0, s1, s2, s3, s4, s5, s6, s7⟩, s8⟩ := hSw; clear c1; go_simp⟩) hHeld ?_
  try simp only [Act.put]
  refine wpAnyH_take (i := 4) (v := (.pointer (some ⟨s.x, 0, none⟩))) rfl (by kernel_rfl) (by kernel_rfl) (by kernel_rfl) (fun _ _ _ h => h) (Or.inl ⟨by kernel_rfl, fun w1 hSw => by clear hHeld; obtain ⟨⟨s0, s1, s2, s3, s4, s5, s6, s7⟩, s8⟩ := hSw; clear c1; go_simp⟩) hHeld ?_
  try simp only [Act.put]
  refine wpAnyH_take (i := 5) (v := (.pointer (some ⟨s.x, 0, none⟩))) rfl (by kernel_rfl) (by kernel_rfl) (by kernel_rfl) (fun _ _ _ h => h) (Or.inl ⟨by kernel_rfl, fun w1 hSw => by clear hHeld; obtain ⟨⟨s0, s1, s2, s3, s4, s5, s6, s7⟩, s8⟩ := hSw; clear c1; go_simp⟩) hHeld ?_
  try simp only [Act.put]
  refine wpAnyH_take (i := 6) (v := (.pointer (some ⟨s.x, 1, none⟩))) rfl (by kernel_rfl) (by kernel_rfl) (by kernel_rfl) (fun _ _ _ h => h) (Or.inl ⟨by kernel_rfl, fun w1 hSw => by clear hHeld; obtain ⟨⟨s0, s1, s2, s3, s4, s5, s6, s7⟩, s8⟩ := hSw; clear c1; go_simp⟩) hHeld ?_
  try simp only [Act.put]
  refine wpAnyH_take (i := 7) (v := (.slice adX s.L.length capX)) rfl (by kernel_rfl) (by kernel_rfl) (by kernel_rfl) (fun _ _ _ h => h) (Or.inl ⟨by kernel_rfl, fun w1 hSw => by clear hHeld; obtain ⟨⟨s0, s1, s2, s3, s4, s5, s6, s7⟩, s8⟩ := hSw; clear c1; go_simp⟩) hHeld ?_
  try simp only [Act.put]
  refine wpAnyH_take (i := 8) (v := (.int .i64 (n : Int))) rfl (by kernel_rfl) (by kernel_rfl) (by kernel_rfl) (fun _ _ _ h => h) (Or.inl ⟨by kernel_rfl, fun w1 hSw => by clear hHeld; obtain ⟨⟨s0, s1, s2, s3, s4, s5, s6, s7⟩, s8⟩ := hSw; clear c1; go_simp⟩) hHeld ?_
  try simp only [Act.put]
  refine wpAnyH_take (i := 9) (v := (.pointer (some ⟨w.heap.size, 1, none⟩))) rfl (by kernel_rfl) (by kernel_rfl) (by kernel_rfl) (fun _ _ _ h => h) (Or.inl ⟨by kernel_rfl, fun w1 hSw => by clear hHeld; obtain ⟨⟨s0, s1, s2, s3, s4, s5, s6, s7⟩, s8⟩ := hSw; clear c1; go_simp⟩) hHeld ?_
  try simp only [Act.put]
  refine wpAnyH_take (i := 10) (v := (.pointer (some ⟨s.x, 0, none⟩))) rfl (by kernel_rfl) (by kernel_rfl) (by kernel_rfl) (fun _ _ _ h => h) (Or.inl ⟨by kernel_rfl, fun w1 hSw => by clear hHeld; obtain ⟨⟨s0, s1, s2, s3, s4, s5, s6, s7⟩, s8⟩ := hSw; clear c1; go_simp⟩) hHeld ?_
  try simp only [Act.put]
  refine wpAnyH_take (i := 11) (v := (.pointer (some ⟨s.x, 0, none⟩))) rfl (by kernel_rfl) (by kernel_rfl) (by kernel_rfl) (fun _ _ _ h => h) (Or.inl ⟨by kernel_rfl, fun w1 hSw => by clear hHeld; obtain ⟨⟨s0, s1, s2, s3, s4, s5, s6, s7⟩, s8⟩ := hSw; clear c1; go_simp⟩) hHeld ?_
  try simp only [Act.put]
  refine wpAnyH_take (i := 12) (v := (.pointer (some ⟨s.x, 1, none⟩))) rfl (by kernel_rfl) (by kernel_rfl) (by kernel_rfl) (fun _ _ _ h => h) (Or.inl ⟨by kernel_rfl, fun w1 hSw => by clear hHeld; obtain ⟨⟨s0, s1, s2, s3, s4, s5, s6, s7⟩, s8⟩ := hSw; clear c1; go_simp⟩) hHeld ?_
  try simp only [Act.put]
  refine wpAnyH_take (i := 13) (v := (.slice adX s.L.length capX)) rfl (by kernel_rfl) (by kernel_rfl) (by kernel_rfl) (fun _ _ _ h => h) (Or.inl ⟨by kernel_rfl, fun w1 hSw => by clear hHeld; obtain ⟨⟨s0, s1, s2, s3, s4, s5, s6, s7⟩, s8⟩ := hSw; clear c1; go_simp⟩) hHeld ?_
  try simp only [Act.put]
  refine wpAnyH_take (i := 14) (v := (.int .i64 (s.L.length : Int))) rfl (by kernel_rfl) (by kernel_rfl) (by kernel_rfl) (fun _ _ _ h => h) (Or.inl ⟨by kernel_rfl, fun w1 hSw => by clear hHeld; obtain ⟨⟨s0, s1, s2, s3, s4, s5, s6, s7⟩, s8⟩ := hSw; clear c1; go_simp⟩) hHeld ?_
  try simp only [Act.put]
  refine wpAnyH_take (i := 15) (v := (.int .i64 (k : Int))) rfl (by kernel_rfl) (by kernel_rfl) (by kernel_rfl) (fun _ _ _ h => h) (Or.inl ⟨by kernel_rfl, fun w1 hSw => by clear hHeld; obtain ⟨⟨s0, s1, s2, s3, s4, s5, s6, s7⟩, s8⟩ := hSw; clear c1; go_simp⟩) hHeld ?_
  try simp only [Act.put]
  refine wpAnyH_take (i := 16) (v := (.slice adX k capX)) rfl (by kernel_rfl) (by kernel_rfl) (by kernel_rfl) (fun _ _ _ h => h) (Or.inl ⟨by kernel_rfl, fun w1 hSw => by clear hHeld; obtain ⟨⟨s0, s1, s2, s3, s4, s5, s6, s7⟩, s8⟩ := hSw; clear c1; go_simp⟩) hHeld ?_
  try simp only [Act.put]
  refine wpAnyH_ready (rs := [17]) (by kernel_rfl) (by simp) ?_
  refine AllReadyH.cons rfl (fun K hK => ?_) AllReadyH.nil
  go_simp
  refine HSM.out.mono ?_
  rintro e w5 ⟨rfl, hb5⟩
  have HB5 := hide (HBD.out.below hb5)
  have HC5 := hide ((hb5.cell (p := ⟨s.x, 1, none⟩) (by have := HPD.out.xa.lt; exact this)).trans c1)
  have HP5 := hide (HPD.out.below hb5)
  have HBB : Hid (Below w.heap.size w w5) := below_of HBW5.out hb5
  clear hb5
  refine hK.out _ _ (⟨HB5.out, HC5.out⟩) (fun hHeld => ?_)
  clear hK K
  refine wpAnyH_take (i := 18) (v := (.bool true)) rfl (by kernel_rfl) (by kernel_rfl) (by kernel_rfl) (fun _ _ _ h => h) (Or.inl ⟨by kernel_rfl, fun w1 hSw => by clear hHeld; obtain ⟨⟨s0, s1, s2, s3, s4, s5, s6, s7⟩, s8⟩ := hSw; clear c1; go_simp⟩) hHeld ?_
  try simp only [Act.put]
  refine wpAnyH_take (i := 19) (v := (.bool true)) rfl (by kernel_rfl) (by kernel_rfl) (by kernel_rfl) (fun _ _ _ h => h) (Or.inl ⟨by kernel_rfl, fun w1 hSw => by clear hHeld; obtain ⟨⟨s0, s1, s2, s3, s4, s5, s6, s7⟩, s8⟩ := hSw; clear c1; go_simp⟩) hHeld ?_
  try simp only [Act.put]
  refine wpAnyH_done (by kernel_rfl) ?_ _
  clear hHeld
  try simp only [List.getElem_toArray]
  try simp only [List.getElem_cons_succ]
  try simp only [List.getElem_cons_zero]
  go_frame
  go_wp2_with fail
  go_ret
  rw [HL.out]
  exact ⟨rfl, HP5.out, Two.of_below HBB.out⟩

theorem answers_any {w : World} {T : Int} {s : Sc} (h : Pr T w s) (o : Lo) (hI : I6 o.job) : Calls Try.prog 13 #[.agg #[.pointer (some ⟨s.b, 0, none⟩), .pointer (some ⟨s.x, 0, none⟩)], o.val] w fun e w' => e = .returned (.bool true) ∧ Pr T w' { s with L := dsL T s.L o } ∧ Two s.m s.x w w' := by
  by_cases hk : 0 ≤ o.kind ∧ o.kind ≤ 5
  · by_cases h0 : o.kind = 0
    · exact answers_0 h o h0
    · by_cases h1 : o.kind = 1
      · exact answers_1 h o h1
      · by_cases h2 : o.kind = 2
        · exact answers_2 h o h2
        · by_cases h3 : o.kind = 3
          · exact answers_3 h o h3
          · by_cases h4 : o.kind = 4
            · exact answers_4 h o h4
            · exact answers_5 h o hI (by omega)
  · exact answers_6 h o hk
end Go.Proofs.Ytjpcghkdedldiaa
