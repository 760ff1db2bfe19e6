import Derived.Test.YtonoogiadgjodaaSeH
import Derived.Laws.AppendOwnNone
namespace Go.Proofs.Ytonoogiadgjodaa
open Go.RowKit
section
variable {B : Nat} {w : World} {b g cap : Nat} {D : List Dk}
theorem rowR_none {s : Int} (h : atD D s = none) : rowR D s = (dk0, false) := by unfold rowR; rw [h]
theorem rowR_zero {s : Int} {d : Dk} (h : atD D s = some d) (h0 : d.li = 0) : rowR D s = (dk0, false) := by unfold rowR; rw [h]; exact if_pos h0
theorem rowR_some {s : Int} {d : Dk} (h : atD D s = some d) (h0 : d.li ≠ 0) : rowR D s = (d, true) := by unfold rowR; rw [h]; exact if_neg h0
theorem tAsk_none {s life se n : Int} (h : (rowR D s).2 = false) : tAsk D s life se n = (1, e0) := by
  unfold tAsk
  cases ha : atD D s with
  | none => rfl
  | some d =>
    by_cases h0 : d.li = 0
    · exact if_pos h0
    · rw [rowR_some ha h0] at h; cases h
theorem tAsk_some {s life se n : Int} {d : Dk} (h : rowR D s = (d, true)) : tAsk D s life se n = if d.li ≠ life then (1, e0) else if d.se ≠ se then (1, e0) else if n = d.la then (if n ≠ 0 then (2, d.rp) else (0, e0)) else if n = d.la + 1 then (3, e0) else (0, e0) := by
  unfold tAsk
  cases ha : atD D s with
  | none => rw [rowR_none ha] at h; cases h
  | some x =>
    by_cases h0 : x.li = 0
    · rw [rowR_zero ha h0] at h; cases h
    · rw [rowR_some ha h0] at h; injection h with h _; subst h; exact if_neg h0
theorem rowR_or (D : List Dk) (s : Int) : rowR D s = (dk0, false) ∨ ∃ d, atD D s = some d ∧ d.li ≠ 0 ∧ rowR D s = (d, true) := by
  cases ha : atD D s with
  | none => exact .inl (rowR_none ha)
  | some d =>
    by_cases h0 : d.li = 0
    · exact .inl (rowR_zero ha h0)
    · exact .inr ⟨d, rfl, h0, rowR_some ha h0⟩

set_option maxHeartbeats 2000000 in
set_option maxRecDepth 8000 in
theorem task_N (h : Tm 92 B w b g cap D) (s life se n : Int) (hr : rowR D s = (dk0, false)) : Calls Try.prog 31 #[.pointer (some ⟨b, 0, none⟩), .int .i64 s, .int .i64 life, .int .i64 se, .int .i64 n] w fun e w' => e = .returned (.tuple #[.int .i64 1, .string ⟨#[]⟩]) ∧ Below w.heap.size w w' := by
  have HR := hide (row_any h s)
  rw [hr] at HR
  unfold Dk.val at HR
  clear h
  simp only [dk0, e0] at HR
  go_enter Try.func31, Try.ntmps31
  go_wp2_with fail
  refine HR.out.mono ?_
  rintro e w1 ⟨rfl, hB⟩
  have HB := hide hB
  clear hB HR
  go_wp2_with fail
  go_ret2
  exact ⟨rfl, HB.out.alloc HB.out.size _⟩

set_option maxHeartbeats 2000000 in
set_option maxRecDepth 8000 in
theorem task_A (h : Tm 92 B w b g cap D) (s life se n : Int) {d : Dk} (hr : rowR D s = (d, true)) (t1 : (d.li != life) = true) : Calls Try.prog 31 #[.pointer (some ⟨b, 0, none⟩), .int .i64 s, .int .i64 life, .int .i64 se, .int .i64 n] w fun e w' => e = .returned (.tuple #[.int .i64 1, .string ⟨#[]⟩]) ∧ Below w.heap.size w w' := by
  have HR := hide (row_any h s)
  rw [hr] at HR
  unfold Dk.val at HR
  clear h
  simp only at HR
  go_enter Try.func31, Try.ntmps31
  go_wp2_with fail
  refine HR.out.mono ?_
  rintro e w1 ⟨rfl, hB⟩
  have HB := hide hB
  clear hB HR
  go_wp2_with fail
  go_ret2
  exact ⟨rfl, HB.out.alloc HB.out.size _⟩

set_option maxHeartbeats 2000000 in
set_option maxRecDepth 8000 in
theorem task_B (h : Tm 92 B w b g cap D) (s life se n : Int) {d : Dk} (hr : rowR D s = (d, true)) (t1 : (d.li != life) = false) (t2 : (d.se != se) = true) : Calls Try.prog 31 #[.pointer (some ⟨b, 0, none⟩), .int .i64 s, .int .i64 life, .int .i64 se, .int .i64 n] w fun e w' => e = .returned (.tuple #[.int .i64 1, .string ⟨#[]⟩]) ∧ Below w.heap.size w w' := by
  have HR := hide (row_any h s)
  rw [hr] at HR
  unfold Dk.val at HR
  clear h
  simp only at HR
  go_enter Try.func31, Try.ntmps31
  go_wp2_with fail
  refine HR.out.mono ?_
  rintro e w1 ⟨rfl, hB⟩
  have HB := hide hB
  clear hB HR
  go_wp2_with fail
  go_ret2
  exact ⟨rfl, HB.out.alloc HB.out.size _⟩

set_option maxHeartbeats 2000000 in
set_option maxRecDepth 8000 in
theorem task_C (h : Tm 92 B w b g cap D) (s life se n : Int) {d : Dk} (hr : rowR D s = (d, true)) (t1 : (d.li != life) = false) (t2 : (d.se != se) = false) (t3 : (n == d.la) = true) (t4 : (n != 0) = true) : Calls Try.prog 31 #[.pointer (some ⟨b, 0, none⟩), .int .i64 s, .int .i64 life, .int .i64 se, .int .i64 n] w fun e w' => e = .returned (.tuple #[.int .i64 2, .string d.rp]) ∧ Below w.heap.size w w' := by
  have HR := hide (row_any h s)
  rw [hr] at HR
  unfold Dk.val at HR
  clear h
  simp only at HR
  go_enter Try.func31, Try.ntmps31
  go_wp2_with fail
  refine HR.out.mono ?_
  rintro e w1 ⟨rfl, hB⟩
  have HB := hide hB
  clear hB HR
  go_wp2_with fail
  go_quiet (fail)
  go_wp2_with fail
  go_ret2
  exact ⟨rfl, below_drewN (HB.out.alloc HB.out.size _) _⟩

set_option maxHeartbeats 2000000 in
set_option maxRecDepth 8000 in
theorem task_D (h : Tm 92 B w b g cap D) (s life se n : Int) {d : Dk} (hr : rowR D s = (d, true)) (l0 : 0 ≤ d.la) (l1 : d.la ≤ 1099511627776) (t1 : (d.li != life) = false) (t2 : (d.se != se) = false) (t3 : (n == d.la) = true) (t4 : (n != 0) = false) (t5 : (n == d.la + 1) = false) : Calls Try.prog 31 #[.pointer (some ⟨b, 0, none⟩), .int .i64 s, .int .i64 life, .int .i64 se, .int .i64 n] w fun e w' => e = .returned (.tuple #[.int .i64 0, .string ⟨#[]⟩]) ∧ Below w.heap.size w w' := by
  have HR := hide (row_any h s)
  rw [hr] at HR
  unfold Dk.val at HR
  clear h
  simp only at HR
  go_enter Try.func31, Try.ntmps31
  go_wp2_with fail
  refine HR.out.mono ?_
  rintro e w1 ⟨rfl, hB⟩
  have HB := hide hB
  clear hB HR
  go_wp2_with fail
  go_ret2
  exact ⟨rfl, HB.out.alloc HB.out.size _⟩

set_option maxHeartbeats 2000000 in
set_option maxRecDepth 8000 in
theorem task_E (h : Tm 92 B w b g cap D) (s life se n : Int) {d : Dk} (hr : rowR D s = (d, true)) (l0 : 0 ≤ d.la) (l1 : d.la ≤ 1099511627776) (t1 : (d.li != life) = false) (t2 : (d.se != se) = false) (t3 : (n == d.la) = false) (t5 : (n == d.la + 1) = true) : Calls Try.prog 31 #[.pointer (some ⟨b, 0, none⟩), .int .i64 s, .int .i64 life, .int .i64 se, .int .i64 n] w fun e w' => e = .returned (.tuple #[.int .i64 3, .string ⟨#[]⟩]) ∧ Below w.heap.size w w' := by
  have HR := hide (row_any h s)
  rw [hr] at HR
  unfold Dk.val at HR
  clear h
  simp only at HR
  go_enter Try.func31, Try.ntmps31
  go_wp2_with fail
  refine HR.out.mono ?_
  rintro e w1 ⟨rfl, hB⟩
  have HB := hide hB
  clear hB HR
  go_wp2_with fail
  go_ret2
  exact ⟨rfl, HB.out.alloc HB.out.size _⟩

set_option maxHeartbeats 2000000 in
set_option maxRecDepth 8000 in
theorem task_F (h : Tm 92 B w b g cap D) (s life se n : Int) {d : Dk} (hr : rowR D s = (d, true)) (l0 : 0 ≤ d.la) (l1 : d.la ≤ 1099511627776) (t1 : (d.li != life) = false) (t2 : (d.se != se) = false) (t3 : (n == d.la) = false) (t5 : (n == d.la + 1) = false) : Calls Try.prog 31 #[.pointer (some ⟨b, 0, none⟩), .int .i64 s, .int .i64 life, .int .i64 se, .int .i64 n] w fun e w' => e = .returned (.tuple #[.int .i64 0, .string ⟨#[]⟩]) ∧ Below w.heap.size w w' := by
  have HR := hide (row_any h s)
  rw [hr] at HR
  unfold Dk.val at HR
  clear h
  simp only at HR
  go_enter Try.func31, Try.ntmps31
  go_wp2_with fail
  refine HR.out.mono ?_
  rintro e w1 ⟨rfl, hB⟩
  have HB := hide hB
  clear hB HR
  go_wp2_with fail
  go_ret2
  exact ⟨rfl, HB.out.alloc HB.out.size _⟩

theorem task_any (h : Tm 92 B w b g cap D) (hk : DOk D) (s life se n : Int) : Calls Try.prog 31 #[.pointer (some ⟨b, 0, none⟩), .int .i64 s, .int .i64 life, .int .i64 se, .int .i64 n] w fun e w' => e = .returned (.tuple #[.int .i64 (tAsk D s life se n).1, .string (tAsk D s life se n).2]) ∧ Below w.heap.size w w' := by
  rcases rowR_or D s with hr | ⟨d, ha, h0, hr⟩
  · rw [tAsk_none (by rw [hr])]; exact task_N h s life se n hr
  obtain ⟨i, _, hi, hd⟩ := atD_some ha
  obtain ⟨_, _, _, _, l0, l1⟩ := hk i d hd
  rw [tAsk_some hr]
  by_cases h1 : d.li ≠ life
  · rw [if_pos h1]; exact task_A h s life se n hr (by simpa using h1)
  rw [if_neg h1]
  have t1 : (d.li != life) = false := by simpa using h1
  by_cases h2 : d.se ≠ se
  · rw [if_pos h2]; exact task_B h s life se n hr t1 (by simpa using h2)
  rw [if_neg h2]
  have t2 : (d.se != se) = false := by simpa using h2
  by_cases h3 : n = d.la
  · rw [if_pos h3]
    have t3 : (n == d.la) = true := by simpa using h3
    by_cases h4 : n ≠ 0
    · rw [if_pos h4]; exact task_C h s life se n hr t1 t2 t3 (by simpa using h4)
    · rw [if_neg h4]; exact task_D h s life se n hr l0 l1 t1 t2 t3 (by simpa using h4) (by simp; omega)
  · rw [if_neg h3]
    have t3 : (n == d.la) = false := by simpa using h3
    by_cases h5 : n = d.la + 1
    · rw [if_pos h5]; exact task_E h s life se n hr l0 l1 t1 t2 t3 (by simpa using h5)
    · rw [if_neg h5]; exact task_F h s life se n hr l0 l1 t1 t2 t3 (by simpa using h5)

set_option maxHeartbeats 2000000 in
set_option maxRecDepth 8000 in
theorem tans_N (h : Tm 92 B w b g cap D) (s : Int) (rp : ByteArray) (hr : rowR D s = (dk0, false)) (ha : atD D s = none) : Calls Try.prog 29 #[.pointer (some ⟨b, 0, none⟩), .int .i64 s, .string rp] w fun e w' => e = .returned (.int .i64 130) ∧ Tm 92 B w' b g cap D ∧ On g w w' := by
  have HR := hide (row_any h s)
  have HT := hide h
  rw [hr] at HR
  unfold Dk.val at HR
  clear h
  simp only [dk0, e0] at HR
  go_enter Try.func29, Try.ntmps29
  go_wp2_with fail
  refine HR.out.mono ?_
  rintro e w1 ⟨rfl, hB⟩
  have HB := hide hB
  have HT1 := hide (HT.out.below hB)
  clear hB HR
  have HH := hide (has_any (HT1.out.alloc (.cells #[.int .i64 0, .int .i64 0, .int .i64 0, .int .i64 0, .string ⟨#[]⟩] 96)) s)
  rw [ha] at HH
  simp only [Option.isSome] at HH
  go_wp2_with fail
  refine HH.out.mono ?_
  rintro e w2 ⟨rfl, rfl⟩
  go_wp2_with fail
  go_ret
  exact ⟨rfl, HT1.out.alloc _, (On.of_below HB.out).alloc _⟩

set_option maxHeartbeats 2000000 in
set_option maxRecDepth 8000 in
theorem tans_Z (h : Tm 92 B w b g cap D) (s : Int) (rp : ByteArray) (hr : rowR D s = (dk0, false)) {d : Dk} (ha : atD D s = some d) : Calls Try.prog 29 #[.pointer (some ⟨b, 0, none⟩), .int .i64 s, .string rp] w fun e w' => e = .returned (.int .i64 132) ∧ Tm 92 B w' b g cap D ∧ On g w w' := by
  have HR := hide (row_any h s)
  have HT := hide h
  rw [hr] at HR
  unfold Dk.val at HR
  clear h
  simp only [dk0, e0] at HR
  go_enter Try.func29, Try.ntmps29
  go_wp2_with fail
  refine HR.out.mono ?_
  rintro e w1 ⟨rfl, hB⟩
  have HB := hide hB
  have HT1 := hide (HT.out.below hB)
  clear hB HR
  have HH := hide (has_any (HT1.out.alloc (.cells #[.int .i64 0, .int .i64 0, .int .i64 0, .int .i64 0, .string ⟨#[]⟩] 96)) s)
  rw [ha] at HH
  simp only [Option.isSome] at HH
  go_wp2_with fail
  refine HH.out.mono ?_
  rintro e w2 ⟨rfl, rfl⟩
  go_wp2_with fail
  go_ret
  exact ⟨rfl, HT1.out.alloc _, (On.of_below HB.out).alloc _⟩

set_option maxHeartbeats 2000000 in
set_option maxRecDepth 8000 in
theorem tans_M (h : Tm 92 B w b g cap D) (s : Int) (rp : ByteArray) {d : Dk} (hr : rowR D s = (d, true)) (ha : atD D s = some d) (t1 : (d.la == 1099511627776) = true) : Calls Try.prog 29 #[.pointer (some ⟨b, 0, none⟩), .int .i64 s, .string rp] w fun e w' => e = .returned (.int .i64 132) ∧ Tm 92 B w' b g cap D ∧ On g w w' := by
  have HR := hide (row_any h s)
  have HT := hide h
  rw [hr] at HR
  unfold Dk.val at HR
  clear h
  simp only at HR
  go_enter Try.func29, Try.ntmps29
  go_wp2_with fail
  refine HR.out.mono ?_
  rintro e w1 ⟨rfl, hB⟩
  have HB := hide hB
  have HT1 := hide (HT.out.below hB)
  clear hB HR
  have HH := hide (has_any (HT1.out.alloc (.cells #[.int .i64 d.sl, .int .i64 d.li, .int .i64 d.se, .int .i64 d.la, .string d.rp] 96)) s)
  rw [ha] at HH
  simp only [Option.isSome] at HH
  go_wp2_with fail
  refine HH.out.mono ?_
  rintro e w2 ⟨rfl, rfl⟩
  go_wp2_with fail
  go_ret
  exact ⟨rfl, HT1.out.alloc _, (On.of_below HB.out).alloc _⟩

set_option maxHeartbeats 2000000 in
set_option maxRecDepth 8000 in
theorem tans_Y (h : Tm 92 B w b g cap D) (s : Int) (rp : ByteArray) {d : Dk} (hr : rowR D s = (d, true)) (ha : atD D s = some d) (t1 : (d.la == 1099511627776) = false) (l0 : 0 ≤ d.la) (l1 : d.la < 1099511627776) : Calls Try.prog 29 #[.pointer (some ⟨b, 0, none⟩), .int .i64 s, .string rp] w fun e w' => e = .returned (.int .i64 0) ∧ Tm 92 B w' b g cap (D.set s.toNat { d with la := d.la + 1, rp := rp }) ∧ On g w w' := by
  have HR := hide (row_any h s)
  have HT := hide h
  rw [hr] at HR
  unfold Dk.val at HR
  clear h
  simp only at HR
  go_enter Try.func29, Try.ntmps29
  go_wp2_with fail
  refine HR.out.mono ?_
  rintro e w1 ⟨rfl, hB⟩
  have HB := hide hB
  have HT1 := hide (HT.out.below hB)
  clear hB HR
  have HH := hide (has_any (HT1.out.alloc (.cells #[.int .i64 d.sl, .int .i64 d.li, .int .i64 d.se, .int .i64 d.la, .string d.rp] 96)) s)
  rw [ha] at HH
  simp only [Option.isSome] at HH
  go_wp2_with fail
  refine HH.out.mono ?_
  rintro e w2 ⟨rfl, rfl⟩
  obtain ⟨i, rfl, hi, hd⟩ := atD_some ha
  obtain ⟨f0, f1, f2, f3, f4⟩ := HT1.out.f hd
  have z := HT1.out.z
  have c0 := HT1.out.c
  have hl := HT1.out.lt
  have hgl := HT1.out.gl
  have t2 : (i : Int) < (D.length : Int) := by omega
  have n8 := HT1.out.n8
  have HP := hide ((HT1.out.put (by decide) hi { d with la := d.la + 1, rp := rp }).alloc (.cells #[.int .i64 d.sl, .int .i64 d.li, .int .i64 d.se, .int .i64 (d.la + 1), .string rp] 96))
  have HO := hide ((((On.of_below (b := g) HB.out).putD (i * 5) { d with la := d.la + 1, rp := rp })).alloc (.cells #[.int .i64 d.sl, .int .i64 d.li, .int .i64 d.se, .int .i64 (d.la + 1), .string rp] 96))
  clear ha hd HT HT1 HH
  go_wp2_with fail
  go_region
  go_wp2_with fail
  go_ret
  exact ⟨rfl, HP.out.drew, HO.out.drew⟩

theorem tans_any (h : Tm 92 B w b g cap D) (hk : DOk D) (s : Int) (rp : ByteArray) : Calls Try.prog 29 #[.pointer (some ⟨b, 0, none⟩), .int .i64 s, .string rp] w fun e w' => e = .returned (.int .i64 (tAnswer D s rp).e) ∧ Tm 92 B w' b g cap (tAnswer D s rp).D ∧ On g w w' := by
  unfold tAnswer
  cases ha : atD D s with
  | none => exact tans_N h s rp (rowR_none ha) ha
  | some d =>
    simp only
    by_cases h0 : d.li = 0
    · rw [if_pos h0]; exact tans_Z h s rp (rowR_zero ha h0) ha
    rw [if_neg h0]
    obtain ⟨i, _, hi, hd⟩ := atD_some ha
    obtain ⟨_, _, _, _, l0, l1⟩ := hk i d hd
    by_cases h1 : d.la = 1099511627776
    · rw [if_pos h1]; exact tans_M h s rp (rowR_some ha h0) ha (by simpa using h1)
    · rw [if_neg h1]; exact tans_Y h s rp (rowR_some ha h0) ha (by simpa using h1) l0 (by omega)
theorem tOpen_ok (hk : DOk D) (s life se : Int) : DOk (tOpen D s life se).D := by
  unfold tOpen
  split
  · exact hk
  · split
    · exact hk
    · split
      · exact hk
      · split
        · exact hk
        · rename_i h1 h2 _
          have h1 : cnt life := Decidable.not_not.1 h1
          have h2 : cnt se := Decidable.not_not.1 h2
          unfold cnt at h1 h2
          exact hk.set _ ⟨by show 0 ≤ life; omega, h1.2, by show 0 ≤ se; omega, h2.2, Int.le_refl _, by show (0 : Int) ≤ _; decide⟩
theorem tAnswer_ok (hk : DOk D) (s : Int) (rp : ByteArray) : DOk (tAnswer D s rp).D := by
  unfold tAnswer
  split
  · exact hk
  · rename_i d ha
    split
    · exact hk
    · split
      · exact hk
      · obtain ⟨i, _, hi, hd⟩ := atD_some ha
        obtain ⟨a1, a2, a3, a4, l0, l1⟩ := hk i d hd
        exact hk.set _ ⟨a1, a2, a3, a4, by show 0 ≤ d.la + 1; omega, by show d.la + 1 ≤ _; omega⟩
theorem tOpen_len (s life se : Int) : (tOpen D s life se).D.length = D.length := by
  unfold tOpen
  split
  · rfl
  · split
    · rfl
    · split
      · rfl
      · split
        · rfl
        · exact List.length_set
theorem tAnswer_len (s : Int) (rp : ByteArray) : (tAnswer D s rp).D.length = D.length := by
  unfold tAnswer
  split
  · rfl
  · split
    · rfl
    · split
      · rfl
      · exact List.length_set
theorem Tm.onC {T bc : Nat} {w' : World} {c : Cl} (h : Tm T B w b g cap D) (hT : T ≠ 77) (hc : Cb w bc c) (ho : On bc w w') : Tm T B w' b g cap D := by
  obtain ⟨cs, hcs⟩ := own_blk h.row (k := g) rfl
  exact h.keep (ho.block b h.lt (blk_ne h.hb hc hT)) (ho.block g h.gl (blk_ne hcs hc (by decide)))
theorem Cb.onT {T bc : Nat} {w' : World} {c : Cl} (hc : Cb w bc c) (h : Tm T B w b g cap D) (ho : On g w w') : Cb w' bc c := by
  obtain ⟨cs, hcs⟩ := own_blk h.row (k := g) rfl
  exact (ho.block bc hc.lt (blk_ne hc hcs (by decide))).trans hc

end
end Go.Proofs.Ytonoogiadgjodaa
