import Derived.Test.YtjfgmdiafhkbgaaAuZ
namespace Go.Proofs.Ytjfgmdiafhkbgaa
open Go.RowKit Go.MapKept
set_option maxRecDepth 8000

instance : Inhabited Ev := ⟨⟨0, 0, 0, 0, 0, 0, 0, 0, 0, 0, 0, ByteArray.empty, []⟩⟩
/-- events in memory, that are only read -/
structure Rv (w : World) (v : Value) (l : List Ev) : Prop where
  form : ∃ p cap, v = .slice p l.length cap ∧ l.length ≤ cap ∧ (0 < l.length → ∃ b off, p = some ⟨b, off, none⟩ ∧ b < w.heap.size ∧ ∀ j, j < l.length → ∃ q cq, Tx w (.slice q (l[j]!).ts.length cq) (l[j]!).ts ∧ ∀ k u, ((l[j]!).cs (.slice q (l[j]!).ts.length cq))[k]? = some u → w.cell? ⟨b, off + j * 13 + k, none⟩ = some u)
theorem Rv.below {w w' : World} {v : Value} {l : List Ev} (h : Rv w v l) (hb : Below w.heap.size w w') : Rv w' v l := by
  obtain ⟨p, cap, hv, hc, h2⟩ := h
  refine ⟨p, cap, hv, hc, fun h0 => ?_⟩
  obtain ⟨b, off, hp, hlt, hx⟩ := h2 h0
  refine ⟨b, off, hp, Nat.lt_of_lt_of_le hlt hb.size, fun j hj => ?_⟩
  obtain ⟨q, cq, ht, hcs⟩ := hx j hj
  exact ⟨q, cq, ht.below hb, fun k u hk => (hb.cell (p := ⟨b, off + j * 13 + k, none⟩) hlt).trans (hcs k u hk)⟩
theorem Rv.shape {w : World} {v : Value} {l : List Ev} (h : Rv w v l) : ∃ p cap, v = .slice p l.length cap ∧ l.length ≤ cap := by
  obtain ⟨p, cap, hv, hc, _⟩ := h
  exact ⟨p, cap, hv, hc⟩
theorem Rv.at {w : World} {p : Option Addr} {n cap : Nat} {l : List Ev} (h : Rv w (.slice p n cap) l) (h0 : 0 < l.length) : ∃ b off, p = some ⟨b, off, none⟩ ∧ b < w.heap.size ∧ ∀ j, j < l.length → ∃ q cq, Tx w (.slice q (l[j]!).ts.length cq) (l[j]!).ts ∧ ∀ k u, ((l[j]!).cs (.slice q (l[j]!).ts.length cq))[k]? = some u → w.cell? ⟨b, off + j * 13 + k, none⟩ = some u := by
  obtain ⟨p', cap', hv, _, h2⟩ := h
  injection hv with e1 _ _
  subst e1
  exact h2 h0
theorem Rv.cut {w : World} {p : Option Addr} {n cap : Nat} {l : List Ev} (h : Rv w (.slice p n cap) l) {k : Nat} (hk : k ≤ l.length) : Rv w (.slice p k cap) (l.take k) := by
  obtain ⟨p', cap', hv, hc, h2⟩ := h
  injection hv with e1 e2 e3
  subst e1; subst e3
  have hl : (l.take k).length = k := by rw [List.length_take]; omega
  refine ⟨p, cap, by rw [hl], by omega, fun h0 => ?_⟩
  obtain ⟨b, off, hp, hlt, hx⟩ := h2 (by omega)
  refine ⟨b, off, hp, hlt, fun j hj => ?_⟩
  have e : (l.take k)[j]! = l[j]! := by
    rw [getElem!_pos (l.take k) j hj, getElem!_pos l j (by omega), List.getElem_take]
  rw [e]
  exact hx j (by omega)
/-- what All's error is -/
def allE (l : List Ev) : Int := if 65536 < l.length then 210 else if l.all okE = true then 0 else 211
section
variable {w w' : World}
set_option maxHeartbeats 4000000 in
theorem check_any {kb : Nat} (hkb : w.heap[kb]? = some (.cells kcs 65 (0, 0))) {v : Value} {l : List Ev} (hr : Rv w v l) :
    Calls Try.prog 18 #[.slice (some ⟨kb, 0, none⟩) 15 15, v] w fun r w' => r = .returned (.int .i64 (allE l)) ∧ Below w.heap.size w w' := by
  obtain ⟨p, cap, rfl, _⟩ := hr.shape
  have HR := hide hr
  have HK := hide hkb
  unfold allE
  clear hr hkb
  by_cases hm : 65536 < l.length
  · rw [if_pos hm]
    have hm' : (65536 : Int) < (l.length : Int) := by omega
    go_enter Try.func18, Try.ntmps18
    go_wp2_with fail
    go_ret
    exact ⟨rfl, Below.refl _ _⟩
  rw [if_neg hm]
  have hm' : ¬ (65536 : Int) < (l.length : Int) := by omega
  generalize hDD : (if l.all okE = true then (0 : Int) else 211) = DD
  have HDD := hide hDD
  clear hDD
  go_enter Try.func18, Try.ntmps18
  go_wp2_with fail
  go_loopw [12] (fun u wr => ∃ i : Nat, u = .int .i64 (i : Int) ∧ i ≤ l.length ∧ Hid (Below w.heap.size w wr) ∧ Hid (∀ j, j < i → okE l[j]! = true)) (fun u _ => (l.length - (intOf u).toNat))
  case atStart => exact ⟨0, rfl, Nat.zero_le _, hide (Below.refl _ _), hide (fun j hj => absurd hj (Nat.not_lt_zero _))⟩
  case round =>
    obtain ⟨i, rfl, hi, HB, HJ⟩ := hrel
    by_cases hil : i < l.length
    · obtain ⟨ab, ao, rfl, hab, hx⟩ := (HR.out.below HB.out).at (by omega)
      obtain ⟨q, cq, ht, hcs⟩ := hx i hil
      have HOK : Hid (okE l[i]! = true ∨ okE l[i]! = false) := hide (by cases okE l[i]! <;> simp)
      have HI : Hid (okE l[i]! = false → ∃ x ∈ l, okE x = false) := hide fun h => ⟨l[i]!, by rw [getElem!_pos l i hil]; exact List.getElem_mem hil, h⟩
      generalize hd : l[i]! = d at *
      have HD := hide hd
      have e0 : wr.cell? ⟨ab, ao + i * 13, none⟩ = some (.int .i64 d.k) := hcs 0 _ rfl
      have e1 : wr.cell? ⟨ab, ao + i * 13 + 1, none⟩ = some (.int .i64 d.co) := hcs 1 _ rfl
      have e2 : wr.cell? ⟨ab, ao + i * 13 + 2, none⟩ = some (.int .i64 d.wn) := hcs 2 _ rfl
      have e3 : wr.cell? ⟨ab, ao + i * 13 + 3, none⟩ = some (.int .i64 d.wl) := hcs 3 _ rfl
      have e4 : wr.cell? ⟨ab, ao + i * 13 + 4, none⟩ = some (.int .i64 d.jo) := hcs 4 _ rfl
      have e5 : wr.cell? ⟨ab, ao + i * 13 + 5, none⟩ = some (.int .i64 d.ba) := hcs 5 _ rfl
      have e6 : wr.cell? ⟨ab, ao + i * 13 + 6, none⟩ = some (.int .i64 d.ix) := hcs 6 _ rfl
      have e7 : wr.cell? ⟨ab, ao + i * 13 + 7, none⟩ = some (.int .i64 d.ct) := hcs 7 _ rfl
      have e8 : wr.cell? ⟨ab, ao + i * 13 + 8, none⟩ = some (.int .i64 d.st) := hcs 8 _ rfl
      have e9 : wr.cell? ⟨ab, ao + i * 13 + 9, none⟩ = some (.int .i64 d.rt) := hcs 9 _ rfl
      have e10 : wr.cell? ⟨ab, ao + i * 13 + 10, none⟩ = some (.int .u64 d.rb) := hcs 10 _ rfl
      have e11 : wr.cell? ⟨ab, ao + i * 13 + 11, none⟩ = some (.string d.tx) := hcs 11 _ rfl
      have e12 : wr.cell? ⟨ab, ao + i * 13 + 12, none⟩ = some (.slice q d.ts.length cq) := hcs 12 _ rfl
      have hn1 : ab < wr.heap.size := hab
      have HM := hide (mayBe_any (w := wr.alloc (.cells #[.int .i64 d.k, .int .i64 d.co, .int .i64 d.wn, .int .i64 d.wl, .int .i64 d.jo, .int .i64 d.ba, .int .i64 d.ix, .int .i64 d.ct, .int .i64 d.st, .int .i64 d.rt, .int .u64 d.rb, .string d.tx, .slice q d.ts.length cq] 43)) (kb := kb) (by
        have h1 := lt_of_block HK.out
        exact (Below.heap_alloc wr _ _ (Nat.lt_of_lt_of_le h1 HB.out.size)).trans ((HB.out.block _ h1).trans HK.out)) d (q := q) (cq := cq))
      clear hx hcs ht hd
      cases hok : okE d with
      | true =>
        rw [hok] at HM
        have HJ2 : Hid (∀ j, j < i + 1 → okE l[j]! = true) := hide fun j hj => by
          rcases Nat.lt_succ_iff_lt_or_eq.mp hj with h | h
          · exact HJ.out j h
          · rw [h, HD.out]; exact hok
        clear hok
        go_wp2_with fail
        refine HM.out.mono ?_
        rintro e w2 ⟨rfl, hb⟩
        have HB2 := hide (below_of HB.out (below_of (below_alloc wr _) hb))
        clear hb
        go_wp2_with fail
        exact ⟨⟨i + 1, by go_num, by omega, HB2, HJ2⟩, by simp [intOf]; omega⟩
      | false =>
        rw [hok] at HM
        have HF : Hid (DD = 211) := hide (by
          rw [← HDD.out, if_neg]
          intro h
          obtain ⟨x, hx, hxf⟩ := HI.out hok
          have := List.all_eq_true.1 h x hx
          rw [hxf] at this
          cases this)
        clear hok
        go_wp2_with fail
        refine HM.out.mono ?_
        rintro e w2 ⟨rfl, hb⟩
        have HB2 := hide (below_of HB.out (below_of (below_alloc wr _) hb))
        clear hb
        go_wp2_with fail
        go_ret
        exact ⟨by rw [HF.out]; rfl, HB2.out⟩
    · obtain rfl : i = l.length := by omega
      have hki : ¬ ((l.length : Int) < (l.length : Int)) := by omega
      have HF : Hid (DD = 0) := hide (by
        rw [← HDD.out, if_pos]
        refine List.all_eq_true.2 fun x hx => ?_
        obtain ⟨j, hj, rfl⟩ := List.getElem_of_mem hx
        have := HJ.out j hj
        rwa [getElem!_pos l j hj] at this)
      clear HJ HDD
      go_wp2_with fail
      go_ret
      exact ⟨by rw [HF.out]; rfl, HB.out⟩
end
end Go.Proofs.Ytjfgmdiafhkbgaa
