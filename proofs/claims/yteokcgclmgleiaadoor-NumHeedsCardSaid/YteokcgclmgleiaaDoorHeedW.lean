import Derived.Test.YteokcgclmgleiaaDoorHeedM
namespace Go.Proofs.YteokcgclmgleiaaDoor
open Go.RowKit

/-- nine words of which each is canonical, twice in memory -/
structure Nine (W : World) (H K : Nat) : Prop where
  at' : ∀ i, i < 9 → ∃ v : Nat, W.cell? ⟨H, i, none⟩ = some (.int .u64 (v : Int)) ∧ W.cell? ⟨K, i, none⟩ = some (.int .u64 (v : Int)) ∧ Gn.canonW v = v ∧ v < 18446744073709551616
theorem nine_of {W : World} {H K : Nat} (v0 v1 v2 v3 v4 v5 v6 v7 v8 : Nat) (t : TypeId) (h1 : W.heap[H]? = some (.cells #[.int .u64 (v0 : Int), .int .u64 (v1 : Int), .int .u64 (v2 : Int), .int .u64 (v3 : Int), .int .u64 (v4 : Int), .int .u64 (v5 : Int), .int .u64 (v6 : Int), .int .u64 (v7 : Int), .int .u64 (v8 : Int)] t (0, 0)))
    (h2 : W.heap[K]? = some (.cells #[.int .u64 (v0 : Int), .int .u64 (v1 : Int), .int .u64 (v2 : Int), .int .u64 (v3 : Int), .int .u64 (v4 : Int), .int .u64 (v5 : Int), .int .u64 (v6 : Int), .int .u64 (v7 : Int), .int .u64 (v8 : Int)] t (0, 0)))
    (c : ∀ v ∈ [v0, v1, v2, v3, v4, v5, v6, v7, v8], Gn.canonW v = v ∧ v < 18446744073709551616) : Nine W H K := ⟨fun i hi => by
  refine ⟨[v0, v1, v2, v3, v4, v5, v6, v7, v8].getD i 0, ?_, ?_, ?_⟩
  · match i, hi with
    | 0, _ | 1, _ | 2, _ | 3, _ | 4, _ | 5, _ | 6, _ | 7, _ | 8, _ => simp [World.cell?, h1]
  · match i, hi with
    | 0, _ | 1, _ | 2, _ | 3, _ | 4, _ | 5, _ | 6, _ | 7, _ | 8, _ => simp [World.cell?, h2]
  · match i, hi with
    | 0, _ | 1, _ | 2, _ | 3, _ | 4, _ | 5, _ | 6, _ | 7, _ | 8, _ => exact c _ (by simp)⟩
/-- the nine calls at one pair of words -/
structure Calls9 (a b v0 v1 v2 v3 v4 v5 v6 v7 v8 : Nat) : Prop where
  k0 : ∀ w : World, Calls Tryd.prog 9 #[.int .u64 (a : Int), .int .u64 (b : Int)] w fun e w' => e = .returned (.int .u64 (v0 : Int)) ∧ ∃ n, w' = w.drewN n
  k1 : ∀ w : World, Calls Tryd.prog 10 #[.int .u64 (a : Int), .int .u64 (b : Int)] w fun e w' => e = .returned (.int .u64 (v1 : Int)) ∧ ∃ n, w' = w.drewN n
  k2 : ∀ w : World, Calls Tryd.prog 11 #[.int .u64 (a : Int), .int .u64 (b : Int)] w fun e w' => e = .returned (.int .u64 (v2 : Int)) ∧ ∃ n, w' = w.drewN n
  k3 : ∀ w : World, Calls Tryd.prog 12 #[.int .u64 (a : Int), .int .u64 (b : Int)] w fun e w' => e = .returned (.int .u64 (v3 : Int)) ∧ ∃ n, w' = w.drewN n
  k4 : ∀ w : World, Calls Tryd.prog 13 #[.int .u64 (a : Int), .int .u64 (b : Int)] w fun e w' => e = .returned (.int .u64 (v4 : Int)) ∧ w' = w
  k5 : ∀ w : World, Calls Tryd.prog 14 #[.int .u64 (a : Int), .int .u64 (b : Int)] w fun e w' => e = .returned (.int .u64 (v5 : Int)) ∧ w' = w
  k6 : ∀ w : World, Calls Tryd.prog 15 #[.int .u64 (a : Int)] w fun e w' => e = .returned (.int .u64 (v6 : Int)) ∧ w' = w
  k7 : ∀ w : World, Calls Tryd.prog 16 #[.int .u64 (a : Int)] w fun e w' => e = .returned (.int .u64 (v7 : Int)) ∧ w' = w
  k8 : ∀ w : World, Calls Tryd.prog 17 #[.int .u64 (a : Int)] w fun e w' => e = .returned (.int .u64 (v8 : Int)) ∧ ∃ n, w' = w.drewN n
theorem calls9 (a b : Nat) (ha : a < 18446744073709551616) (hb : b < 18446744073709551616) : Calls9 a b (Gn.addW a b) (Gn.subW a b) (Gn.mulW a b) (Gn.divW a b) (minW a b) (maxW a b) (Gn.negW a) (Gn.absW a) (floorW a) :=
  ⟨add_any a b, sub_any a b hb, mul_any a b, div_any a b, min_any a b ha hb, max_any a b ha hb, neg_any a ha, abs_any a ha, floor_any a ha⟩
theorem calls9c (a b : Nat) (ha : a < 18446744073709551616) (hb : b < 18446744073709551616) : Calls9 (Gn.canonW a) (Gn.canonW b) (Gn.addW a b) (Gn.subW a b) (Gn.mulW a b) (Gn.divW a b) (minW a b) (maxW a b) (Gn.negW a) (Gn.absW a) (floorW a) := by
  have h := calls9 (Gn.canonW a) (Gn.canonW b) (Gn.canon_lt a ha) (Gn.canon_lt b hb)
  rw [heed_add a b ha hb, heed_sub a b ha hb, heed_mul a b ha hb, heed_div a b ha hb, heed_min, heed_max, heed_neg a ha, heed_abs a ha, heed_floor] at h
  exact h
theorem canons (a b : Nat) (ha : a < 18446744073709551616) (hb : b < 18446744073709551616) : ∀ v ∈ [Gn.addW a b, Gn.subW a b, Gn.mulW a b, Gn.divW a b, minW a b, maxW a b, Gn.negW a, Gn.absW a, floorW a], Gn.canonW v = v ∧ v < 18446744073709551616 := by
  intro v hv
  simp only [List.mem_cons, List.not_mem_nil, or_false] at hv
  rcases hv with rfl | rfl | rfl | rfl | rfl | rfl | rfl | rfl | rfl
  · exact ⟨Gn.canon_add a b, Gn.add_lt a b⟩
  · exact ⟨Gn.canon_add a _, Gn.add_lt a _⟩
  · exact ⟨Gn.canon_mul a b, Gn.mul_lt a b⟩
  · exact ⟨Gn.canon_div a b, Gn.div_lt a b⟩
  · exact ⟨canon_min a b, min_lt a b ha hb⟩
  · exact ⟨canon_max a b, max_lt a b ha hb⟩
  · exact ⟨canon_idem _, Gn.neg_lt a ha⟩
  · exact ⟨canon_idem _, Gn.abs_lt a⟩
  · exact ⟨canon_floor a ha, floor_lt a⟩
end Go.Proofs.YteokcgclmgleiaaDoor
