import Derived.Test.YtjpcghkdedldiaaLsL
namespace Go.Proofs.Ytjpcghkdedldiaa
open Go.RowKit Go.Shelf

/-- a table that may be -/
structure Ta (w : World) (b m : Nat) (T : Int) (L : List Lz) : Prop where
  tb : Tb w b m T L
  ok : Ok T L
  t1 : 1 ≤ T
  t2 : T ≤ 256
section
variable {w w' : World} {b m : Nat} {T : Int} {L L' : List Lz}
theorem Ta.below (h : Ta w b m T L) (hb : Below w.heap.size w w') : Ta w' b m T L := ⟨h.tb.below hb, h.ok, h.t1, h.t2⟩
theorem Ta.alloc (h : Ta w b m T L) (o : Obj) : Ta (w.alloc o) b m T L := h.below (below_alloc w o)
theorem Ta.with (h : Ta w b m T L) (h1 : Tb w' b m T L') (h2 : Ok T L') : Ta w' b m T L' := ⟨h1, h2, h.t1, h.t2⟩
theorem Ta.drewN (h : Ta w b m T L) (n : Nat) : Ta (w.drewN n) b m T L := ⟨h.tb.keep rfl rfl, h.ok, h.t1, h.t2⟩
end

theorem rnw_none {T g : Int} {L : List Lz} (h : has g L = false) : rnw T g L = L := by
  unfold rnw
  refine (List.map_congr_left fun x hx => ?_).trans (List.map_id _)
  exact if_neg (has_false.1 h x hx)
/-- what Renew and Drop answer -/
def naE (g : Int) (L : List Lz) : Int := if has g L = true then 0 else 122

theorem grant_ok {w : World} {b m : Nat} {T : Int} {L : List Lz} (h : Ta w b m T L) (j g n l : Int) :
    Calls Try.prog 18 #[.pointer (some ⟨b, 0, none⟩), .int .i64 j, .int .i64 g, .agg #[.int .i64 n, .int .i64 l]] w fun e w' => e = .returned (.int .i64 (grE L j g)) ∧ Ta w' b m T (grL T L j g n l) ∧ w.grownBy w' (some m) := by
  by_cases ha : j < 1 ∨ 8 < j ∨ g < 1 ∨ 1099511627776 < g
  · have e1 : grE L j g = 1 := if_pos ha
    have e2 : grL T L j g n l = L := by unfold grL; rw [e1]; rfl
    rw [e1, e2]
    refine (grant_arg ha).mono ?_
    rintro e w' ⟨rfl, hb⟩
    exact ⟨rfl, h.below hb, grown_any hb _⟩
  · have hj1 : 1 ≤ j := by omega
    have hj2 : j ≤ 8 := by omega
    have hg1 : 1 ≤ g := by omega
    have hg2 : g ≤ 1099511627776 := by omega
    refine (grant_in (n := n) (l := l) h.tb hj1 hj2 hg1 hg2 h.ok.len12 (h.ok.room h.t1 hj1 hj2 hg1 hg2)).mono ?_
    rintro e w' ⟨rfl, ht, hg⟩
    have e1 : grE L j g = if thr j g L = true then 121 else 0 := if_neg ha
    unfold grL
    rw [e1]
    by_cases hq : thr j g L = true
    · rw [if_pos hq] at ht
      rw [if_pos hq, if_neg (by decide)]
      exact ⟨rfl, h.with ht h.ok, hg⟩
    · rw [if_neg hq] at ht
      rw [if_neg hq, if_pos rfl]
      exact ⟨rfl, h.with ht (h.ok.grant h.t1 hj1 hj2 hg1 hg2 (by simpa using hq)), hg⟩
theorem renew_ok {w : World} {b m : Nat} {T : Int} {L : List Lz} (h : Ta w b m T L) (g : Int) :
    Calls Try.prog 20 #[.pointer (some ⟨b, 0, none⟩), .int .i64 g] w fun e w' => e = .returned (.int .i64 (naE g L)) ∧ Ta w' b m T (rnw T g L) ∧ w.grownBy w' (some m) := by
  cases hg : has g L
  · rw [rnw_none hg, show naE g L = 122 by unfold naE; rw [hg]; rfl]
    refine (renew_no h.tb hg).mono ?_
    rintro e w' ⟨rfl, hb⟩
    exact ⟨rfl, h.below hb, grown_any hb _⟩
  · rw [show naE g L = 0 by unfold naE; rw [hg]; rfl]
    refine (renew_yes h.tb hg).mono ?_
    rintro e w' ⟨rfl, ht, hgr⟩
    rw [put_rnw h.ok.rise hg] at ht
    exact ⟨rfl, h.with ht (h.ok.rnws h.t1 hg), hgr⟩
theorem drop_ok {w : World} {b m : Nat} {T : Int} {L : List Lz} (h : Ta w b m T L) (g : Int) :
    Calls Try.prog 25 #[.pointer (some ⟨b, 0, none⟩), .int .i64 g] w fun e w' => e = .returned (.int .i64 (naE g L)) ∧ Ta w' b m T (del g L) ∧ w.grownBy w' (some m) := by
  cases hg : has g L
  · rw [del_none (has_false.1 hg), show naE g L = 122 by unfold naE; rw [hg]; rfl]
    refine (drop_no h.tb hg).mono ?_
    rintro e w' ⟨rfl, hb⟩
    exact ⟨rfl, h.below hb, grown_any hb _⟩
  · rw [show naE g L = 0 by unfold naE; rw [hg]; rfl]
    refine (drop_yes h.tb hg).mono ?_
    rintro e w' ⟨rfl, ht, hgr⟩
    exact ⟨rfl, h.with ht (h.ok.dels g), hgr⟩
theorem tick_ok {w : World} {b m : Nat} {T : Int} {L : List Lz} (h : Ta w b m T L) :
    Calls Try.prog 19 #[.pointer (some ⟨b, 0, none⟩)] w fun e w' => ∃ v, e = .returned v ∧ w'.ownsRow w.heap.size 54 5 v (tkO L).length (lcs (tkO L)) ∧ Ta w' b m T (tkL L) ∧ w.grownBy w' (some m) := by
  refine (tick_any h.tb h.ok.len12 (h.ok.left h.t2)).mono ?_
  rintro e w' ⟨v, rfl, ho, ht, hg⟩
  rw [tkM_eq h.ok.rise] at ht
  exact ⟨v, rfl, ho, h.with ht h.ok.tick, hg⟩
theorem find_ok {w : World} {b m : Nat} {T : Int} {L : List Lz} (h : Ta w b m T L) (g : Int) :
    Calls Try.prog 21 #[.pointer (some ⟨b, 0, none⟩), .int .i64 g] w fun e w' => e = .returned (.tuple #[(fnd g L).val, .bool (has g L)]) ∧ Below w.heap.size w w' := find_any h.tb g
theorem new_ok {T : Int} (h1 : 1 ≤ T) (h2 : T ≤ 256) (w : World) : Calls Try.prog 9 #[.int .i64 T] w fun e w' => e = .returned (.tuple #[.pointer (some ⟨w.heap.size + 1, 0, none⟩), .int .i64 0]) ∧ Ta w' (w.heap.size + 1) w.heap.size T [] ∧ Below w.heap.size w w' :=
  (new_yes h1 h2 w).mono fun _ _ ⟨he, ht, hb⟩ => ⟨he, ⟨ht, ok_nil T, h1, h2⟩, hb⟩

set_option maxHeartbeats 1000000 in
theorem clone_any {w : World} {b m : Nat} {T : Int} {L : List Lz} (hT : Tb w b m T L) :
    Calls Try.prog 14 #[.pointer (some ⟨b, 0, none⟩)] w fun e w' => e = .returned (.pointer (some ⟨w.heap.size + 1, 0, none⟩)) ∧ Tb w' (w.heap.size + 1) w.heap.size T L ∧ Below w.heap.size w w' := by
  have hlt := hT.lt
  have c0 := hT.c0
  have c1 := hT.c1
  obtain ⟨hR, es, clock, hb, hst, hp⟩ := hT.map
  have hcl : Calls Try.prog 30 #[.map (some m)] w.drew fun e w' => e = .returned (.map (some w.heap.size)) ∧ w' = w.drew.alloc (.map es clock) := AnyW.maps_Clone Try.cloneL m es clock w.drew hb
  have HL : Hid (Lm (w.alloc (.map es clock)) w.heap.size L) := ⟨hR, es, clock, (MapKept.heap_alloc w _).1, hst, hp⟩
  clear hT hR hb hst hp
  go_enter Try.func14, Try.ntmps14
  go_wp2
  go_region_with (go_at_call 30; refine hcl.mono ?_; rintro e w' ⟨rfl, rfl⟩)
  all_goals
    (try simp only [List.getElem_toArray])
    (try simp only [List.getElem_cons_succ])
    (try simp only [List.getElem_cons_zero])
    go_frame
    go_wp2
    go_ret
    refine ⟨rfl, ⟨?_, ?_⟩, ?_⟩
    · have := heap_alloc_new (w.alloc (.map es clock)) (.cells #[.int .i64 T, .map (some w.heap.size)] 65)
      rw [World.size_alloc] at this
      exact this
    · exact HL.out.below (below_alloc _ _).drew
    · exact ((below_alloc w (.map es clock)).alloc (by simp) _).drew
end Go.Proofs.Ytjpcghkdedldiaa
