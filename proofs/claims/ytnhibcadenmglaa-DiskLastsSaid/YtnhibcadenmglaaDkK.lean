import Derived.Test.YtnhibcadenmglaaDkJ
namespace Go.Proofs.Ytnhibcadenmglaa
open Go.RowKit

set_option maxHeartbeats 1000000 in
theorem fits_any {w : World} {ad : Option Addr} {ab ao cap : Nat} {l : List ByteArray} (h : Rs w ad ab ao l) (hl : l.length ≤ 8796093021952) :
    Calls Try.prog 36 #[.slice ad l.length cap] w fun e w' => e = .returned (.int .i64 (loadE l)) ∧ w' = w := by
  unfold loadE
  by_cases h1 : 1 ≤ l.length ∧ l.length ≤ 1026
  · rw [if_neg (by simpa using h1)]
    obtain ⟨E, hE⟩ : ∃ E, (if all8 l = true then (0 : Int) else 41) = E := ⟨_, rfl⟩
    rw [hE]
    have HE := hide hE
    clear hE
    have b0 : ¬ l.length < 1 := by omega
    have b1 : decide ((1026 : Int) < (l.length : Int)) = false := by simp; omega
    have b2 : ¬ 1026 < l.length := by omega
    have b3 : decide ((l.length : Int) < 1) = false := by simp; omega
    clear h1
    go_enter Try.func36, Try.ntmps36
    go_wp2
    go_loopw [3] (fun u wr => ∃ i : Nat, u = .int .i64 (i : Int) ∧ i ≤ l.length ∧ wr = w ∧ Hid (all8 l = all8 (l.drop i))) (fun u _ => (l.length - (intOf u).toNat))
    case atStart => exact ⟨0, rfl, Nat.zero_le _, rfl, rfl⟩
    case round =>
      obtain ⟨i, rfl, hi, rfl, HA⟩ := hrel
      by_cases hil : i < l.length
      · have ea := h.at_ (by omega)
        have c0 := h.cell i hil
        have hd : l.drop i = l[i] :: l.drop (i + 1) := List.drop_eq_getElem_cons hil
        have hA2 : all8 (l.drop i) = ((l[i].size == 128) && all8 (l.drop (i + 1))) := by rw [hd]; rfl
        have HA2 := hide hA2
        generalize l[i] = s at *
        clear hd hA2 h
        subst ea
        by_cases hs : s.size = 128
        · have HA3 : Hid (all8 l = all8 (l.drop (i + 1))) := show _ = _ by rw [HA.out, HA2.out, hs]; rfl
          clear HA HA2
          go_wp2
          exact ⟨⟨i + 1, by go_num, by omega, by trivial, HA3⟩, by simp [intOf]; omega⟩
        · have b4 : ((s.size : Int) == 128) = false := by simp; omega
          have HA3 : Hid (all8 l = false) := show _ = _ by rw [HA.out, HA2.out]; simp [hs]
          clear HA HA2
          go_wp2
          go_ret
          exact ⟨by rw [← HE.out, HA3.out]; rfl, rfl⟩
      · obtain rfl : i = l.length := by omega
        have HA3 : Hid (all8 l = true) := show _ = _ by rw [HA.out, List.drop_length]; rfl
        clear h HA
        go_wp2
        go_ret
        exact ⟨by rw [← HE.out, HA3.out]; rfl, rfl⟩
  · rw [if_pos h1]
    clear h
    by_cases hp : 1 ≤ l.length
    · have b0 : ¬ l.length < 1 := by omega
      have b1 : decide ((1026 : Int) < (l.length : Int)) = true := by simp; omega
      have b2 : 1026 < l.length := by omega
      have b3 : decide ((l.length : Int) < 1) = false := by simp; omega
      clear h1
      go_enter Try.func36, Try.ntmps36
      go_wp2
      go_ret
      exact ⟨rfl, rfl⟩
    · have b0 : l.length < 1 := by omega
      have b3 : decide ((l.length : Int) < 1) = true := by simp; omega
      clear h1
      go_enter Try.func36, Try.ntmps36
      go_wp2
      go_ret
      exact ⟨rfl, rfl⟩

set_option maxHeartbeats 1000000 in
theorem rload_no {w : World} {ad : Option Addr} {ab ao cap : Nat} {l : List ByteArray} (h : Rs w ad ab ao l) (h0 : loadE l ≠ 0) (hl : l.length ≤ 8796093021952) :
    Calls Try.prog 14 #[.slice ad l.length cap] w fun e w' => e = .returned (.tuple #[.pointer none, .int .i64 (loadE l)]) ∧ w' = w := by
  have HF := hide (fits_any (cap := cap) h hl)
  generalize loadE l = E at *
  have b0 : (E == 0) = false := by simpa using h0
  clear h
  go_enter Try.func14, Try.ntmps14
  go_wp2_with (go_at_call 36; refine HF.out.mono ?_; rintro e w1 ⟨rfl, rfl⟩)
  go_ret2
  exact ⟨rfl, rfl⟩

/-- writes, one behind the other -/
def DS.wrs (d : DS) (R : List Wr) : DS := R.foldl (fun d r => (d.write r.sec r.data).2) d
theorem DS.write_len (d : DS) (k : Int) (x : ByteArray) : (d.write k x).2.R.length ≤ d.R.length + 1 := by
  unfold DS.write
  split
  · exact Nat.le_succ _
  · split
    · exact Nat.le_succ _
    · split
      · exact Nat.le_succ _
      · split
        · exact Nat.le_succ _
        · simp
theorem DS.wrs_len (d : DS) (R : List Wr) : (d.wrs R).R.length ≤ d.R.length + R.length := by
  induction R generalizing d with
  | nil => exact Nat.le_refl _
  | cons r R ih =>
    have h1 := ih (d.write r.sec r.data).2
    have h2 := d.write_len r.sec r.data
    show (DS.wrs (d.write r.sec r.data).2 R).R.length ≤ _
    simp only [List.length_cons]
    omega
theorem DS.wrs_take {R : List Wr} {i : Nat} (h : i < R.length) (d : DS) : d.wrs (R.take (i + 1)) = ((d.wrs (R.take i)).write R[i].sec R[i].data).2 := by
  unfold DS.wrs
  rw [List.take_succ_eq_append_getElem h, List.foldl_append]
  rfl
theorem DS.write_slen (d : DS) (k : Int) (x : ByteArray) : (d.write k x).2.S.length = d.S.length := by
  unfold DS.write
  split
  · rfl
  · split
    · rfl
    · split
      · rfl
      · split <;> exact layS_len _ _ _
theorem DS.wrs_slen (d : DS) (R : List Wr) : (d.wrs R).S.length = d.S.length := by
  induction R generalizing d with
  | nil => rfl
  | cons r R ih => exact (ih _).trans (d.write_slen _ _)

set_option maxHeartbeats 1000000 in
set_option maxRecDepth 8000 in
theorem made_yes {w : World} {ad ad2 : Option Addr} {ab ao cap ab2 ao2 cap2 : Nat} {l : List ByteArray} {R : List Wr} (h : Rs w ad ab ao l) (h2 : Rw w ad2 ab2 ao2 R) (h0 : loadE l = 0) (hR : R.length ≤ 5864062014634) :
    Calls Try.prog 24 #[.slice ad l.length cap, .slice ad2 R.length cap2] w fun e w' => ∃ b F, e = .returned (.pointer (some ⟨b, 0, none⟩)) ∧ Dk w.heap.size w' b F ((fresh l).wrs R) ∧ Below w.heap.size w w' := by
  have HL := hide (load_yes (cap := cap) h h0)
  clear h h0
  go_enter Try.func24, Try.ntmps24
  go_wp2_with fail
  refine HL.out.mono ?_
  rintro e w1 ⟨b, F, rfl, hD, hB⟩
  have HD1 := hide hD
  have HB1 := hide hB
  clear hD hB HL
  go_wp2
  go_loopw [7] (fun u wr => ∃ (i : Nat) (F' : Nat → Prop), u = .int .i64 (i : Int) ∧ i ≤ R.length ∧ Hid (Dk w.heap.size wr b F' ((fresh l).wrs (R.take i))) ∧ Hid (Below w.heap.size w wr)) (fun u _ => (R.length - (intOf u).toNat))
  case atStart => exact ⟨0, F, rfl, Nat.zero_le _, HD1, HB1⟩
  case round =>
    obtain ⟨i, F', rfl, hi, HD, HB⟩ := hrel
    by_cases hil : i < R.length
    · have h2' := h2.below HB.out
      have KC : Hid (∀ w2, Below w.heap.size w w2 → w2.cell? ⟨ab2, ao2 + i * 2, none⟩ = some (.int .i64 R[i].sec) ∧ w2.cell? ⟨ab2, ao2 + i * 2 + 1, none⟩ = some (.string R[i].data)) := fun w2 hb => ⟨(h2.below hb).sec i hil, (h2.below hb).data i hil⟩
      have c0 := h2'.sec i hil
      have c1 := h2'.data i hil
      have ea := h2.at_ (by omega)
      have HW := hide (write_any HD.out.drew R[i].sec R[i].data (by have := ((fresh l).wrs_len (R.take i)); rw [List.length_take] at this; simp only [fresh, List.length_nil] at this ⊢; omega))
      rw [← DS.wrs_take hil] at HW
      generalize R[i].sec = x at *
      generalize R[i].data = y at *
      subst ea
      have H2 := hide h2
      clear h2 h2'
      generalize (((fresh l).wrs (R.take i)).write x y).1 = E at *
      go_wp2_with fail
      go_region_held3 (fun w' => w'.cell? ⟨ab2, ao2 + i * 2, none⟩ = some (.int .i64 x) ∧ w'.cell? ⟨ab2, ao2 + i * 2 + 1, none⟩ = some (.string y)) (go_keep) (first
        | (go_at_call 20; refine HW.out.mono ?_; rintro e w2 ⟨rfl, F2, hD2, hM2⟩; have HD2 := hide hD2; have HB2 := hide (HB.out.trans (below_drew (hM2.below HB.out.size HD.out.ftlow))); obtain ⟨k0, k1⟩ := KC.out w2 HB2.out; clear hD2 hM2))
      go_wp2
      exact ⟨⟨i + 1, _, by go_num, by omega, HD2, HB2⟩, by simp [intOf]; omega⟩
    · obtain rfl : i = R.length := by omega
      rw [List.take_length] at HD
      clear h2
      go_wp2
      go_ret
      exact ⟨_, _, rfl, HD.out, HB.out⟩

set_option maxHeartbeats 1000000 in
theorem made_no {w : World} {ad : Option Addr} {ab ao cap : Nat} {l : List ByteArray} {v : Value} (h : Rs w ad ab ao l) (h0 : loadE l ≠ 0) (hl : l.length ≤ 8796093021952) :
    Calls Try.prog 24 #[.slice ad l.length cap, v] w fun e w' => e = .returned (.pointer none) ∧ w' = w := by
  have HL := hide (load_no (cap := cap) h h0 hl)
  generalize loadE l = E at *
  have b0 : (E == 0) = false := by simpa using h0
  clear h
  go_enter Try.func24, Try.ntmps24
  go_wp2_with (go_at_call 13; refine HL.out.mono ?_; rintro e w1 ⟨rfl, rfl⟩)
  go_ret
  exact ⟨rfl, rfl⟩
end Go.Proofs.Ytnhibcadenmglaa
