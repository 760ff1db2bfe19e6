import Derived.Test.YtmkfhcdmcncgkaaSyA
namespace Go.Proofs.Ytmkfhcdmcncgkaa
open Go.RowKit Go.Shelf

theorem own_str0 {w : World} {base g : Nat} {t : TypeId} (h : w.heap[g]? = some (.cells #[] t (0, 0))) (hb : base ≤ g) : w.ownsRow base t 1 (.slice (some ⟨g, 0, none⟩) 0 0) 0 [] :=
  ⟨rfl, .inr ⟨g, 0, #[], rfl, hb, h, Nat.le_refl _, Nat.zero_le _, rfl, rfl⟩⟩
set_option maxRecDepth 8000 in
set_option maxHeartbeats 4000000 in
/-- the document's Numbers -/
theorem rnums_any {w : World} {x : Nat} {win n : Int} {H : List Bool} {T : List ByteArray} {M : List Hx} (h : Xb w x win n H T) (hk : LkM M H T) (hR : Rise M) (hb : ∀ x ∈ M, 0 ≤ x.no ∧ x.no < 32) :
    Calls Try.prog 17 #[.pointer (some ⟨x, 0, none⟩)] w fun e w' => ∃ v, e = .returned v ∧ w'.ownsRow w.heap.size 3 1 v M.length ((nos M).map encZ) ∧ Below w.heap.size w w' := by
  have HX := hide h
  have HA := hide (nums_all hk hR hb)
  have HH : Hid (∀ i : Nat, i < 32 → ∃ b, H[i]? = some b) := hide fun i hi => ⟨_, (hk i hi).1⟩
  obtain ⟨iN, hiN, zN0, zN1, zN2⟩ := info_parts Try.infoN
  clear h hk hR hb
  go_enter Try.func17, Try.ntmps17
  go_wp2_with fail
  go_loopw [3, 4] (fun u t wr => ∃ i k : Nat, t = .int .i64 (i : Int) ∧ i ≤ 32 ∧ Hid (k = (nums H i).length ∧ k ≤ 32 ∧ wr.ownsRow w.heap.size 3 1 u k ((nums H i).map encZ)) ∧ Hid (Below w.heap.size w wr)) (fun _ t _ => 32 - (intOf t).toNat)
  case atStart => exact ⟨0, 0, rfl, Nat.zero_le _, hide ⟨rfl, by omega, own_str0 (heap_alloc_new w _) (Nat.le_refl _)⟩, below_alloc w _⟩
  case round =>
    obtain ⟨i, k, rfl, hi, HO, HB⟩ := hrel
    obtain ⟨ad, cap, rfl⟩ := own_slice HO.out.2.2
    by_cases hil : i < 32
    · obtain ⟨b, hbi⟩ := HH.out i hil
      have ch := (HX.out.below HB.out).ch hbi
      have hlt : x < wr.heap.size := (HX.out.below HB.out).lt
      cases b with
      | false =>
        have HN := hide (nums_no hbi)
        clear hbi
        go_wp2_with fail
        go_roundw
        case rel => exact ⟨i + 1, k, by go_num, by omega, by rw [HN.out]; exact HO, HB⟩
        case measure => simp only [intOf]; omega
      | true =>
        have HN := hide (nums_yes hbi)
        have hk32 : k ≤ 32 := HO.out.2.1
        have HK : Hid ((nums H (i + 1)).length = k + 1 ∧ k + 1 ≤ 32) := hide ⟨by rw [HN.out, List.length_append, ← HO.out.1]; rfl, by have := nums_len H (i + 1); rw [HN.out, List.length_append, ← HO.out.1] at this; simp at this; omega⟩
        have HOA : Hid ((wr.alloc (.cells #[.int .i64 (i : Int)] 3)).ownsRow w.heap.size 3 1 (.slice ad k cap) k ((nums H i).map encZ)) := own_alloc HO.out.2.2 _
        have hap : Hid (∀ g, (Value.slice ad k cap).ownBlock = some g → w.heap.size ≤ g) := hide fun g e => (HO.out.2.2.lt g e).1
        have hsz := HB.out.size
        clear hbi
        go_wp2_with (at_builtin; refine wpList_append_lies _ rfl _ _ 44 rfl w.heap.size 3 iN (.int .i64 0) 1 8 Try.underlying44 hiN zN0 zN1 zN2 rfl (by decide) (.slice ad k cap) k ((nums H i).map encZ) rfl HOA.out ⟨wr.heap.size, 0, none⟩ 1 1 [.int .i64 (i : Int)] rfl rfl (one_new _ _ _) (by intro u hu; simp at hu; subst hu; rfl) (by decide) (by unfold maxLen; omega) (by omega) (by rw [World.size_alloc]; omega) _ rfl ?_; intro g7 cap7 w7 hown7 hgrow7 hat7 hlt7; have HO7 := hide hown7; have HB7 := hide ((HB.out.alloc hsz _).grown hgrow7 (by rw [World.size_alloc]; omega) hap.out); clear hown7 hgrow7 hat7 hlt7)
        go_roundw
        case rel => exact ⟨i + 1, k + 1, by go_num, by omega, hide ⟨HK.out.1.symm, HK.out.2, by rw [HN.out, List.map_append]; exact HO7.out⟩, HB7⟩
        case measure => simp only [intOf]; omega
    · have hie : i = 32 := by omega
      subst hie
      go_wp2_with fail
      go_ret
      have h1 := HO.out
      rw [HA.out] at h1
      have h2 : k = M.length := by rw [h1.1]; simp [nos]
      refine ⟨_, rfl, ?_, HB.out⟩
      rw [← h2]
      exact h1.2.2
end Go.Proofs.Ytmkfhcdmcncgkaa
