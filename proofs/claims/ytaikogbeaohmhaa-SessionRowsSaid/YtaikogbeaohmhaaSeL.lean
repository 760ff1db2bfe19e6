import Derived.Test.YtaikogbeaohmhaaSeK
namespace Go.Proofs.Ytaikogbeaohmhaa
open Go.RowKit
section
variable {B : Nat} {w : World} {b g cap : Nat} {D : List Dk}

set_option maxHeartbeats 1000000 in
theorem there_any (h : Tm 94 B w b g cap D) (s : Int) : Calls Try.prog 59 #[.pointer (some ⟨b, 0, none⟩), .int .i64 s] w fun e w' => e = .returned (.bool (atD D s).isSome) ∧ w' = w := by
  have c0 := h.c
  have n8 := h.n8
  clear h
  cases ha : atD D s with
  | none =>
    rcases atD_none ha with hs | hs
    · have t1 : decide (0 ≤ s) = false := decide_eq_false (by omega)
      clear hs ha
      go_enter Try.func59, Try.ntmps59
      go_wp2
      go_ret
      exact ⟨rfl, rfl⟩
    · have t1 : decide (0 ≤ s) = true := decide_eq_true (by omega)
      have t2 : decide (s < (D.length : Int)) = false := decide_eq_false (by omega)
      clear hs ha
      go_enter Try.func59, Try.ntmps59
      go_wp2
      go_ret
      exact ⟨rfl, rfl⟩
  | some d =>
    obtain ⟨i, rfl, hi, _⟩ := atD_some ha
    have t1 : decide ((0 : Int) ≤ (i : Int)) = true := decide_eq_true (by omega)
    have t2 : decide ((i : Int) < (D.length : Int)) = true := decide_eq_true (by omega)
    have t3 : decide (i < D.length) = true := decide_eq_true hi
    clear hi ha
    go_enter Try.func59, Try.ntmps59
    go_wp2
    go_ret
    exact ⟨rfl, rfl⟩

set_option maxHeartbeats 2000000 in
set_option maxRecDepth 8000 in
theorem rhello_A (h : Tm 94 B w b g cap D) {i : Nat} {d : Dk} (ha : atD D (i : Int) = some d) (life : Int) (a1 : decide (life < 1) = true) : Calls Try.prog 41 #[.pointer (some ⟨b, 0, none⟩), .int .i64 (i : Int), .int .i64 life] w fun e w' => e = .returned (.tuple #[.int .i64 0, .int .i64 0]) ∧ Below w.heap.size w w' := by
  have HH := hide (there_any h (i : Int))
  rw [ha] at HH
  simp only [Option.isSome] at HH
  obtain ⟨i', hi', hi, hd⟩ := atD_some ha
  obtain rfl : i = i' := by omega
  obtain ⟨f0, f1, f2, f3, f4⟩ := h.f hd
  have t2 : (i : Int) < (D.length : Int) := by omega
  have n8 := h.n8
  have c0 := h.c
  clear h ha hd hi'
  go_enter Try.func41, Try.ntmps41
  go_wp2_with fail
  refine HH.out.mono ?_
  rintro e w1 ⟨rfl, rfl⟩
  go_wp2_with fail
  go_ret2
  exact ⟨rfl, Below.refl _ _⟩

set_option maxHeartbeats 2000000 in
set_option maxRecDepth 8000 in
theorem rhello_M (h : Tm 94 B w b g cap D) {i : Nat} {d : Dk} (ha : atD D (i : Int) = some d) (life : Int) (a1 : decide (life < 1) = false) (a2 : decide (1099511627776 < life) = true) : Calls Try.prog 41 #[.pointer (some ⟨b, 0, none⟩), .int .i64 (i : Int), .int .i64 life] w fun e w' => e = .returned (.tuple #[.int .i64 0, .int .i64 0]) ∧ Below w.heap.size w w' := by
  have HH := hide (there_any h (i : Int))
  rw [ha] at HH
  simp only [Option.isSome] at HH
  obtain ⟨i', hi', hi, hd⟩ := atD_some ha
  obtain rfl : i = i' := by omega
  obtain ⟨f0, f1, f2, f3, f4⟩ := h.f hd
  have t2 : (i : Int) < (D.length : Int) := by omega
  have n8 := h.n8
  have c0 := h.c
  clear h ha hd hi'
  go_enter Try.func41, Try.ntmps41
  go_wp2_with fail
  refine HH.out.mono ?_
  rintro e w1 ⟨rfl, rfl⟩
  go_wp2_with fail
  go_ret2
  exact ⟨rfl, Below.refl _ _⟩

set_option maxHeartbeats 2000000 in
set_option maxRecDepth 8000 in
theorem rhello_G (h : Tm 94 B w b g cap D) {i : Nat} {d : Dk} (ha : atD D (i : Int) = some d) (life : Int) (a1 : decide (life < 1) = false) (a2 : decide (1099511627776 < life) = false) (a3 : decide (life < d.li) = true) : Calls Try.prog 41 #[.pointer (some ⟨b, 0, none⟩), .int .i64 (i : Int), .int .i64 life] w fun e w' => e = .returned (.tuple #[.int .i64 0, .int .i64 0]) ∧ Below w.heap.size w w' := by
  have HH := hide (there_any h (i : Int))
  rw [ha] at HH
  simp only [Option.isSome] at HH
  obtain ⟨i', hi', hi, hd⟩ := atD_some ha
  obtain rfl : i = i' := by omega
  obtain ⟨f0, f1, f2, f3, f4⟩ := h.f hd
  have t2 : (i : Int) < (D.length : Int) := by omega
  have n8 := h.n8
  have c0 := h.c
  clear h ha hd hi'
  go_enter Try.func41, Try.ntmps41
  go_wp2_with fail
  refine HH.out.mono ?_
  rintro e w1 ⟨rfl, rfl⟩
  go_wp2_with fail
  go_ret2
  exact ⟨rfl, Below.refl _ _⟩

set_option maxHeartbeats 2000000 in
set_option maxRecDepth 8000 in
theorem rhello_E (h : Tm 94 B w b g cap D) {i : Nat} {d : Dk} (ha : atD D (i : Int) = some d) (life : Int) (a1 : decide (life < 1) = false) (a2 : decide (1099511627776 < life) = false) (a3 : decide (life < d.li) = false) (a4 : (d.li == life) = true) : Calls Try.prog 41 #[.pointer (some ⟨b, 0, none⟩), .int .i64 (i : Int), .int .i64 life] w fun e w' => e = .returned (.tuple #[.int .i64 1, .int .i64 d.se]) ∧ Below w.heap.size w w' := by
  have HH := hide (there_any h (i : Int))
  rw [ha] at HH
  simp only [Option.isSome] at HH
  obtain ⟨i', hi', hi, hd⟩ := atD_some ha
  obtain rfl : i = i' := by omega
  obtain ⟨f0, f1, f2, f3, f4⟩ := h.f hd
  have t2 : (i : Int) < (D.length : Int) := by omega
  have n8 := h.n8
  have c0 := h.c
  clear h ha hd hi'
  go_enter Try.func41, Try.ntmps41
  go_wp2_with fail
  refine HH.out.mono ?_
  rintro e w1 ⟨rfl, rfl⟩
  go_wp2_with fail
  go_quiet (fail)
  go_wp2_with fail
  go_ret2
  exact ⟨rfl, below_drewN (Below.refl _ _) _⟩

set_option maxHeartbeats 2000000 in
set_option maxRecDepth 8000 in
theorem rhello_F (h : Tm 94 B w b g cap D) {i : Nat} {d : Dk} (ha : atD D (i : Int) = some d) (life : Int) (a1 : decide (life < 1) = false) (a2 : decide (1099511627776 < life) = false) (a3 : decide (life < d.li) = false) (a4 : (d.li == life) = false) : Calls Try.prog 41 #[.pointer (some ⟨b, 0, none⟩), .int .i64 (i : Int), .int .i64 life] w fun e w' => e = .returned (.tuple #[.int .i64 2, .int .i64 0]) ∧ Below w.heap.size w w' := by
  have HH := hide (there_any h (i : Int))
  rw [ha] at HH
  simp only [Option.isSome] at HH
  obtain ⟨i', hi', hi, hd⟩ := atD_some ha
  obtain rfl : i = i' := by omega
  obtain ⟨f0, f1, f2, f3, f4⟩ := h.f hd
  have t2 : (i : Int) < (D.length : Int) := by omega
  have n8 := h.n8
  have c0 := h.c
  clear h ha hd hi'
  go_enter Try.func41, Try.ntmps41
  go_wp2_with fail
  refine HH.out.mono ?_
  rintro e w1 ⟨rfl, rfl⟩
  go_wp2_with fail
  go_ret2
  exact ⟨rfl, Below.refl _ _⟩

set_option maxHeartbeats 2000000 in
theorem rhello_any (h : Tm 94 B w b g cap D) (s life : Int) : Calls Try.prog 41 #[.pointer (some ⟨b, 0, none⟩), .int .i64 s, .int .i64 life] w fun e w' => e = .returned (.tuple #[.int .i64 (tHello D s life).1, .int .i64 (tHello D s life).2]) ∧ Below w.heap.size w w' := by
  unfold tHello
  cases ha : atD D s with
  | none =>
    have HH := hide (there_any h s)
    rw [ha] at HH
    simp only [Option.isSome] at HH
    clear h ha
    go_enter Try.func41, Try.ntmps41
    go_wp2_with fail
    refine HH.out.mono ?_
    rintro e w1 ⟨rfl, rfl⟩
    go_wp2_with fail
    go_ret2
    exact ⟨rfl, Below.refl _ _⟩
  | some d =>
    obtain ⟨i, rfl, _, _⟩ := atD_some ha
    simp only
    by_cases hc : cnt life
    · rw [if_neg (fun x => x hc)]
      have a1 : decide (life < 1) = false := decide_eq_false (by have := hc.1; omega)
      have a2 : decide (1099511627776 < life) = false := decide_eq_false (by have := hc.2; omega)
      by_cases hg : life < d.li
      · rw [if_pos hg]; exact rhello_G h ha life a1 a2 (decide_eq_true hg)
      · rw [if_neg hg]
        by_cases he : d.li = life
        · rw [if_pos he]; exact rhello_E h ha life a1 a2 (decide_eq_false hg) (by simpa using he)
        · rw [if_neg he]; exact rhello_F h ha life a1 a2 (decide_eq_false hg) (by simpa using he)
    · rw [if_pos hc]
      by_cases h1 : life < 1
      · exact rhello_A h ha life (decide_eq_true h1)
      · exact rhello_M h ha life (decide_eq_false h1) (decide_eq_true (by unfold cnt at hc; omega))

set_option maxHeartbeats 2000000 in
set_option maxRecDepth 8000 in
theorem ropen_A (h : Tm 94 B w b g cap D) {i : Nat} {d : Dk} (ha : atD D (i : Int) = some d) (life se : Int) (a1 : decide (life < 1) = true) : Calls Try.prog 42 #[.pointer (some ⟨b, 0, none⟩), .int .i64 (i : Int), .int .i64 life, .int .i64 se] w fun e w' => e = .returned (.int .i64 132) ∧ Tm 94 B w' b g cap D ∧ On g w w' := by
  have HH := hide (there_any h (i : Int))
  have HT := hide h
  rw [ha] at HH
  simp only [Option.isSome] at HH
  obtain ⟨i', hi', hi, hd⟩ := atD_some ha
  obtain rfl : i = i' := by omega
  obtain ⟨f0, f1, f2, f3, f4⟩ := h.f hd
  have z := h.z
  have t2 : (i : Int) < (D.length : Int) := by omega
  have n8 := h.n8
  have c0 := h.c
  clear h ha hd hi'
  go_enter Try.func42, Try.ntmps42
  go_wp2_with fail
  refine HH.out.mono ?_
  rintro e w1 ⟨rfl, rfl⟩
  go_wp2_with fail
  go_ret
  exact ⟨rfl, HT.out, On.refl _ _⟩

set_option maxHeartbeats 2000000 in
set_option maxRecDepth 8000 in
theorem ropen_M (h : Tm 94 B w b g cap D) {i : Nat} {d : Dk} (ha : atD D (i : Int) = some d) (life se : Int) (a1 : decide (life < 1) = false) (a2 : decide (1099511627776 < life) = true) : Calls Try.prog 42 #[.pointer (some ⟨b, 0, none⟩), .int .i64 (i : Int), .int .i64 life, .int .i64 se] w fun e w' => e = .returned (.int .i64 132) ∧ Tm 94 B w' b g cap D ∧ On g w w' := by
  have HH := hide (there_any h (i : Int))
  have HT := hide h
  rw [ha] at HH
  simp only [Option.isSome] at HH
  obtain ⟨i', hi', hi, hd⟩ := atD_some ha
  obtain rfl : i = i' := by omega
  obtain ⟨f0, f1, f2, f3, f4⟩ := h.f hd
  have z := h.z
  have t2 : (i : Int) < (D.length : Int) := by omega
  have n8 := h.n8
  have c0 := h.c
  clear h ha hd hi'
  go_enter Try.func42, Try.ntmps42
  go_wp2_with fail
  refine HH.out.mono ?_
  rintro e w1 ⟨rfl, rfl⟩
  go_wp2_with fail
  go_ret
  exact ⟨rfl, HT.out, On.refl _ _⟩

set_option maxHeartbeats 2000000 in
set_option maxRecDepth 8000 in
theorem ropen_B (h : Tm 94 B w b g cap D) {i : Nat} {d : Dk} (ha : atD D (i : Int) = some d) (life se : Int) (a1 : decide (life < 1) = false) (a2 : decide (1099511627776 < life) = false) (b1 : decide (se < 1) = true) : Calls Try.prog 42 #[.pointer (some ⟨b, 0, none⟩), .int .i64 (i : Int), .int .i64 life, .int .i64 se] w fun e w' => e = .returned (.int .i64 132) ∧ Tm 94 B w' b g cap D ∧ On g w w' := by
  have HH := hide (there_any h (i : Int))
  have HT := hide h
  rw [ha] at HH
  simp only [Option.isSome] at HH
  obtain ⟨i', hi', hi, hd⟩ := atD_some ha
  obtain rfl : i = i' := by omega
  obtain ⟨f0, f1, f2, f3, f4⟩ := h.f hd
  have z := h.z
  have t2 : (i : Int) < (D.length : Int) := by omega
  have n8 := h.n8
  have c0 := h.c
  clear h ha hd hi'
  go_enter Try.func42, Try.ntmps42
  go_wp2_with fail
  refine HH.out.mono ?_
  rintro e w1 ⟨rfl, rfl⟩
  go_wp2_with fail
  go_ret
  exact ⟨rfl, HT.out, On.refl _ _⟩

set_option maxHeartbeats 2000000 in
set_option maxRecDepth 8000 in
theorem ropen_C (h : Tm 94 B w b g cap D) {i : Nat} {d : Dk} (ha : atD D (i : Int) = some d) (life se : Int) (a1 : decide (life < 1) = false) (a2 : decide (1099511627776 < life) = false) (b1 : decide (se < 1) = false) (b2 : decide (1099511627776 < se) = true) : Calls Try.prog 42 #[.pointer (some ⟨b, 0, none⟩), .int .i64 (i : Int), .int .i64 life, .int .i64 se] w fun e w' => e = .returned (.int .i64 132) ∧ Tm 94 B w' b g cap D ∧ On g w w' := by
  have HH := hide (there_any h (i : Int))
  have HT := hide h
  rw [ha] at HH
  simp only [Option.isSome] at HH
  obtain ⟨i', hi', hi, hd⟩ := atD_some ha
  obtain rfl : i = i' := by omega
  obtain ⟨f0, f1, f2, f3, f4⟩ := h.f hd
  have z := h.z
  have t2 : (i : Int) < (D.length : Int) := by omega
  have n8 := h.n8
  have c0 := h.c
  clear h ha hd hi'
  go_enter Try.func42, Try.ntmps42
  go_wp2_with fail
  refine HH.out.mono ?_
  rintro e w1 ⟨rfl, rfl⟩
  go_wp2_with fail
  go_ret
  exact ⟨rfl, HT.out, On.refl _ _⟩

set_option maxHeartbeats 2000000 in
set_option maxRecDepth 8000 in
theorem ropen_G (h : Tm 94 B w b g cap D) {i : Nat} {d : Dk} (ha : atD D (i : Int) = some d) (life se : Int) (a1 : decide (life < 1) = false) (a2 : decide (1099511627776 < life) = false) (b1 : decide (se < 1) = false) (b2 : decide (1099511627776 < se) = false) (a3 : decide (life < d.li) = true) : Calls Try.prog 42 #[.pointer (some ⟨b, 0, none⟩), .int .i64 (i : Int), .int .i64 life, .int .i64 se] w fun e w' => e = .returned (.int .i64 132) ∧ Tm 94 B w' b g cap D ∧ On g w w' := by
  have HH := hide (there_any h (i : Int))
  have HT := hide h
  rw [ha] at HH
  simp only [Option.isSome] at HH
  obtain ⟨i', hi', hi, hd⟩ := atD_some ha
  obtain rfl : i = i' := by omega
  obtain ⟨f0, f1, f2, f3, f4⟩ := h.f hd
  have z := h.z
  have t2 : (i : Int) < (D.length : Int) := by omega
  have n8 := h.n8
  have c0 := h.c
  clear h ha hd hi'
  go_enter Try.func42, Try.ntmps42
  go_wp2_with fail
  refine HH.out.mono ?_
  rintro e w1 ⟨rfl, rfl⟩
  go_wp2_with fail
  go_ret
  exact ⟨rfl, HT.out, On.refl _ _⟩

set_option maxHeartbeats 2000000 in
set_option maxRecDepth 8000 in
theorem ropen_Y (h : Tm 94 B w b g cap D) {i : Nat} {d : Dk} (ha : atD D (i : Int) = some d) (life se : Int) (a1 : decide (life < 1) = false) (a2 : decide (1099511627776 < life) = false) (b1 : decide (se < 1) = false) (b2 : decide (1099511627776 < se) = false) (a3 : decide (life < d.li) = false)  : Calls Try.prog 42 #[.pointer (some ⟨b, 0, none⟩), .int .i64 (i : Int), .int .i64 life, .int .i64 se] w fun e w' => e = .returned (.int .i64 0) ∧ Tm 94 B w' b g cap (D.set i ⟨(i : Int), life, se, 0, e0⟩) ∧ On g w w' := by
  have HH := hide (there_any h (i : Int))
  have HT := hide h
  rw [ha] at HH
  simp only [Option.isSome] at HH
  obtain ⟨i', hi', hi, hd⟩ := atD_some ha
  obtain rfl : i = i' := by omega
  obtain ⟨f0, f1, f2, f3, f4⟩ := h.f hd
  have z := h.z
  have t2 : (i : Int) < (D.length : Int) := by omega
  have n8 := h.n8
  have c0 := h.c
  clear h ha hd hi'
  go_enter Try.func42, Try.ntmps42
  go_wp2_with fail
  refine HH.out.mono ?_
  rintro e w1 ⟨rfl, rfl⟩
  go_wp2_with fail
  go_ret
  exact ⟨rfl, HT.out.put (by decide) hi ⟨(i : Int), life, se, 0, e0⟩, (On.refl g _).putD (i * 5) ⟨(i : Int), life, se, 0, e0⟩⟩

set_option maxHeartbeats 2000000 in
theorem ropen_any (h : Tm 94 B w b g cap D) (s life se : Int) : Calls Try.prog 42 #[.pointer (some ⟨b, 0, none⟩), .int .i64 s, .int .i64 life, .int .i64 se] w fun e w' => e = .returned (.int .i64 (tOpen D s life se).e) ∧ Tm 94 B w' b g cap (tOpen D s life se).D ∧ On g w w' := by
  unfold tOpen
  cases ha : atD D s with
  | none =>
    have HH := hide (there_any h s)
    have HT := hide h
    rw [ha] at HH
    simp only [Option.isSome] at HH
    clear h ha
    go_enter Try.func42, Try.ntmps42
    go_wp2_with fail
    refine HH.out.mono ?_
    rintro e w1 ⟨rfl, rfl⟩
    go_wp2_with fail
    go_ret
    exact ⟨rfl, HT.out, On.refl _ _⟩
  | some d =>
    obtain ⟨i, rfl, _, _⟩ := atD_some ha
    simp only
    by_cases hc : cnt life
    · rw [if_neg (fun x => x hc)]
      have a1 : decide (life < 1) = false := decide_eq_false (by have := hc.1; omega)
      have a2 : decide (1099511627776 < life) = false := decide_eq_false (by have := hc.2; omega)
      by_cases hs : cnt se
      · rw [if_neg (fun x => x hs)]
        have b1 : decide (se < 1) = false := decide_eq_false (by have := hs.1; omega)
        have b2 : decide (1099511627776 < se) = false := decide_eq_false (by have := hs.2; omega)
        by_cases hg : life < d.li
        · rw [if_pos hg]; exact ropen_G h ha life se a1 a2 b1 b2 (decide_eq_true hg)
        · rw [if_neg hg]; exact ropen_Y h ha life se a1 a2 b1 b2 (decide_eq_false hg)
      · rw [if_pos hs]
        by_cases h1 : se < 1
        · exact ropen_B h ha life se a1 a2 (decide_eq_true h1)
        · exact ropen_C h ha life se a1 a2 (decide_eq_false h1) (decide_eq_true (by unfold cnt at hs; omega))
    · rw [if_pos hc]
      by_cases h1 : life < 1
      · exact ropen_A h ha life se (decide_eq_true h1)
      · exact ropen_M h ha life se (decide_eq_false h1) (decide_eq_true (by unfold cnt at hc; omega))

set_option maxHeartbeats 2000000 in
set_option maxRecDepth 8000 in
theorem rask_Z (h : Tm 94 B w b g cap D) {i : Nat} {d : Dk} (ha : atD D (i : Int) = some d) (life se n : Int) (q0 : (d.li == 0) = true) : Calls Try.prog 43 #[.pointer (some ⟨b, 0, none⟩), .int .i64 (i : Int), .int .i64 life, .int .i64 se, .int .i64 n] w fun e w' => e = .returned (.tuple #[.int .i64 1, .string ⟨#[]⟩]) ∧ Below w.heap.size w w' := by
  have HH := hide (there_any h (i : Int))
  rw [ha] at HH
  simp only [Option.isSome] at HH
  obtain ⟨i', hi', hi, hd⟩ := atD_some ha
  obtain rfl : i = i' := by omega
  obtain ⟨f0, f1, f2, f3, f4⟩ := h.f hd
  have t2 : (i : Int) < (D.length : Int) := by omega
  have n8 := h.n8
  have c0 := h.c
  clear h ha hd hi'
  go_enter Try.func43, Try.ntmps43
  go_wp2_with fail
  refine HH.out.mono ?_
  rintro e w1 ⟨rfl, rfl⟩
  go_wp2_with fail
  go_ret2
  exact ⟨rfl, Below.refl _ _⟩

set_option maxHeartbeats 2000000 in
set_option maxRecDepth 8000 in
theorem rask_A (h : Tm 94 B w b g cap D) {i : Nat} {d : Dk} (ha : atD D (i : Int) = some d) (life se n : Int) (q0 : (d.li == 0) = false) (q1 : (d.li != life) = true) : Calls Try.prog 43 #[.pointer (some ⟨b, 0, none⟩), .int .i64 (i : Int), .int .i64 life, .int .i64 se, .int .i64 n] w fun e w' => e = .returned (.tuple #[.int .i64 1, .string ⟨#[]⟩]) ∧ Below w.heap.size w w' := by
  have HH := hide (there_any h (i : Int))
  rw [ha] at HH
  simp only [Option.isSome] at HH
  obtain ⟨i', hi', hi, hd⟩ := atD_some ha
  obtain rfl : i = i' := by omega
  obtain ⟨f0, f1, f2, f3, f4⟩ := h.f hd
  have t2 : (i : Int) < (D.length : Int) := by omega
  have n8 := h.n8
  have c0 := h.c
  clear h ha hd hi'
  go_enter Try.func43, Try.ntmps43
  go_wp2_with fail
  refine HH.out.mono ?_
  rintro e w1 ⟨rfl, rfl⟩
  go_wp2_with fail
  go_ret2
  exact ⟨rfl, Below.refl _ _⟩

set_option maxHeartbeats 2000000 in
set_option maxRecDepth 8000 in
theorem rask_B (h : Tm 94 B w b g cap D) {i : Nat} {d : Dk} (ha : atD D (i : Int) = some d) (life se n : Int) (q0 : (d.li == 0) = false) (q1 : (d.li != life) = false) (q2 : (d.se != se) = true) : Calls Try.prog 43 #[.pointer (some ⟨b, 0, none⟩), .int .i64 (i : Int), .int .i64 life, .int .i64 se, .int .i64 n] w fun e w' => e = .returned (.tuple #[.int .i64 1, .string ⟨#[]⟩]) ∧ Below w.heap.size w w' := by
  have HH := hide (there_any h (i : Int))
  rw [ha] at HH
  simp only [Option.isSome] at HH
  obtain ⟨i', hi', hi, hd⟩ := atD_some ha
  obtain rfl : i = i' := by omega
  obtain ⟨f0, f1, f2, f3, f4⟩ := h.f hd
  have t2 : (i : Int) < (D.length : Int) := by omega
  have n8 := h.n8
  have c0 := h.c
  clear h ha hd hi'
  go_enter Try.func43, Try.ntmps43
  go_wp2_with fail
  refine HH.out.mono ?_
  rintro e w1 ⟨rfl, rfl⟩
  go_wp2_with fail
  go_ret2
  exact ⟨rfl, Below.refl _ _⟩

set_option maxHeartbeats 2000000 in
set_option maxRecDepth 8000 in
theorem rask_C (h : Tm 94 B w b g cap D) {i : Nat} {d : Dk} (ha : atD D (i : Int) = some d) (life se n : Int) (q0 : (d.li == 0) = false) (q1 : (d.li != life) = false) (q2 : (d.se != se) = false) (q3 : (n == d.la) = true) (q4 : (n != 0) = true) : Calls Try.prog 43 #[.pointer (some ⟨b, 0, none⟩), .int .i64 (i : Int), .int .i64 life, .int .i64 se, .int .i64 n] w fun e w' => e = .returned (.tuple #[.int .i64 2, .string d.rp]) ∧ Below w.heap.size w w' := by
  have HH := hide (there_any h (i : Int))
  rw [ha] at HH
  simp only [Option.isSome] at HH
  obtain ⟨i', hi', hi, hd⟩ := atD_some ha
  obtain rfl : i = i' := by omega
  obtain ⟨f0, f1, f2, f3, f4⟩ := h.f hd
  have t2 : (i : Int) < (D.length : Int) := by omega
  have n8 := h.n8
  have c0 := h.c
  clear h ha hd hi'
  go_enter Try.func43, Try.ntmps43
  go_wp2_with fail
  refine HH.out.mono ?_
  rintro e w1 ⟨rfl, rfl⟩
  go_wp2_with fail
  go_quiet (fail)
  go_wp2_with fail
  go_ret2
  exact ⟨rfl, below_drewN (below_alloc _ _) _⟩

set_option maxHeartbeats 2000000 in
set_option maxRecDepth 8000 in
theorem rask_D (h : Tm 94 B w b g cap D) {i : Nat} {d : Dk} (ha : atD D (i : Int) = some d) (life se n : Int) (q0 : (d.li == 0) = false) (q1 : (d.li != life) = false) (q2 : (d.se != se) = false) (m0 : -9223372036854775807 ≤ n) (m1 : n ≤ 9223372036854775807) (q3 : (n == d.la) = true) (q4 : (n != 0) = false) (q5 : (n - 1 == d.la) = false) : Calls Try.prog 43 #[.pointer (some ⟨b, 0, none⟩), .int .i64 (i : Int), .int .i64 life, .int .i64 se, .int .i64 n] w fun e w' => e = .returned (.tuple #[.int .i64 0, .string ⟨#[]⟩]) ∧ Below w.heap.size w w' := by
  have HH := hide (there_any h (i : Int))
  rw [ha] at HH
  simp only [Option.isSome] at HH
  obtain ⟨i', hi', hi, hd⟩ := atD_some ha
  obtain rfl : i = i' := by omega
  obtain ⟨f0, f1, f2, f3, f4⟩ := h.f hd
  have t2 : (i : Int) < (D.length : Int) := by omega
  have n8 := h.n8
  have c0 := h.c
  clear h ha hd hi'
  go_enter Try.func43, Try.ntmps43
  go_wp2_with fail
  refine HH.out.mono ?_
  rintro e w1 ⟨rfl, rfl⟩
  go_wp2_with fail
  go_ret2
  exact ⟨rfl, below_alloc _ _⟩

set_option maxHeartbeats 2000000 in
set_option maxRecDepth 8000 in
theorem rask_E (h : Tm 94 B w b g cap D) {i : Nat} {d : Dk} (ha : atD D (i : Int) = some d) (life se n : Int) (q0 : (d.li == 0) = false) (q1 : (d.li != life) = false) (q2 : (d.se != se) = false) (m0 : -9223372036854775807 ≤ n) (m1 : n ≤ 9223372036854775807) (q3 : (n == d.la) = false) (q5 : (n - 1 == d.la) = true) (q6 : decide (0 < n) = true) : Calls Try.prog 43 #[.pointer (some ⟨b, 0, none⟩), .int .i64 (i : Int), .int .i64 life, .int .i64 se, .int .i64 n] w fun e w' => e = .returned (.tuple #[.int .i64 3, .string ⟨#[]⟩]) ∧ Below w.heap.size w w' := by
  have HH := hide (there_any h (i : Int))
  rw [ha] at HH
  simp only [Option.isSome] at HH
  obtain ⟨i', hi', hi, hd⟩ := atD_some ha
  obtain rfl : i = i' := by omega
  obtain ⟨f0, f1, f2, f3, f4⟩ := h.f hd
  have t2 : (i : Int) < (D.length : Int) := by omega
  have n8 := h.n8
  have c0 := h.c
  clear h ha hd hi'
  go_enter Try.func43, Try.ntmps43
  go_wp2_with fail
  refine HH.out.mono ?_
  rintro e w1 ⟨rfl, rfl⟩
  go_wp2_with fail
  go_ret2
  exact ⟨rfl, below_alloc _ _⟩

set_option maxHeartbeats 2000000 in
set_option maxRecDepth 8000 in
theorem rask_F (h : Tm 94 B w b g cap D) {i : Nat} {d : Dk} (ha : atD D (i : Int) = some d) (life se n : Int) (q0 : (d.li == 0) = false) (q1 : (d.li != life) = false) (q2 : (d.se != se) = false) (m0 : -9223372036854775807 ≤ n) (m1 : n ≤ 9223372036854775807) (q3 : (n == d.la) = false) (q5 : (n - 1 == d.la) = false) : Calls Try.prog 43 #[.pointer (some ⟨b, 0, none⟩), .int .i64 (i : Int), .int .i64 life, .int .i64 se, .int .i64 n] w fun e w' => e = .returned (.tuple #[.int .i64 0, .string ⟨#[]⟩]) ∧ Below w.heap.size w w' := by
  have HH := hide (there_any h (i : Int))
  rw [ha] at HH
  simp only [Option.isSome] at HH
  obtain ⟨i', hi', hi, hd⟩ := atD_some ha
  obtain rfl : i = i' := by omega
  obtain ⟨f0, f1, f2, f3, f4⟩ := h.f hd
  have t2 : (i : Int) < (D.length : Int) := by omega
  have n8 := h.n8
  have c0 := h.c
  clear h ha hd hi'
  go_enter Try.func43, Try.ntmps43
  go_wp2_with fail
  refine HH.out.mono ?_
  rintro e w1 ⟨rfl, rfl⟩
  go_wp2_with fail
  go_ret2
  exact ⟨rfl, below_alloc _ _⟩

set_option maxHeartbeats 2000000 in
set_option maxRecDepth 8000 in
theorem rask_G (h : Tm 94 B w b g cap D) {i : Nat} {d : Dk} (ha : atD D (i : Int) = some d) (life se n : Int) (q0 : (d.li == 0) = false) (q1 : (d.li != life) = false) (q2 : (d.se != se) = false) (q3 : (n == d.la) = false) (hn : n = -9223372036854775808) : Calls Try.prog 43 #[.pointer (some ⟨b, 0, none⟩), .int .i64 (i : Int), .int .i64 life, .int .i64 se, .int .i64 n] w fun e w' => e = .returned (.tuple #[.int .i64 0, .string ⟨#[]⟩]) ∧ Below w.heap.size w w' := by
  have HH := hide (there_any h (i : Int))
  rw [ha] at HH
  simp only [Option.isSome] at HH
  obtain ⟨i', hi', hi, hd⟩ := atD_some ha
  obtain rfl : i = i' := by omega
  obtain ⟨f0, f1, f2, f3, f4⟩ := h.f hd
  have t2 : (i : Int) < (D.length : Int) := by omega
  have n8 := h.n8
  have c0 := h.c
  clear h ha hd hi'
  go_enter Try.func43, Try.ntmps43
  go_wp2_with fail
  refine HH.out.mono ?_
  rintro e w1 ⟨rfl, rfl⟩
  subst hn
  go_wp2_with fail
  all_goals
    go_ret2
    exact ⟨rfl, below_alloc _ _⟩

set_option maxHeartbeats 2000000 in
theorem rask_any (h : Tm 94 B w b g cap D) (hk : DOk D) (s life se : Int) {n : Int} (hn : -9223372036854775808 ≤ n ∧ n ≤ 9223372036854775807) : Calls Try.prog 43 #[.pointer (some ⟨b, 0, none⟩), .int .i64 s, .int .i64 life, .int .i64 se, .int .i64 n] w fun e w' => e = .returned (.tuple #[.int .i64 (tAsk D s life se n).1, .string (tAsk D s life se n).2]) ∧ Below w.heap.size w w' := by
  unfold tAsk
  cases ha : atD D s with
  | none =>
    have HH := hide (there_any h s)
    rw [ha] at HH
    simp only [Option.isSome] at HH
    clear h ha
    go_enter Try.func43, Try.ntmps43
    go_wp2_with fail
    refine HH.out.mono ?_
    rintro e w1 ⟨rfl, rfl⟩
    go_wp2_with fail
    go_ret2
    exact ⟨rfl, Below.refl _ _⟩
  | some d =>
    obtain ⟨i, rfl, _, hd⟩ := atD_some ha
    obtain ⟨_, _, _, _, l0, l1⟩ := hk i d hd
    simp only
    by_cases h0 : d.li = 0
    · rw [if_pos h0]; exact rask_Z h ha life se n (by simpa using h0)
    rw [if_neg h0]
    have q0 : (d.li == 0) = false := by simpa using h0
    by_cases h1 : d.li ≠ life
    · rw [if_pos h1]; exact rask_A h ha life se n q0 (by simpa using h1)
    rw [if_neg h1]
    have q1 : (d.li != life) = false := by simpa using h1
    by_cases h2 : d.se ≠ se
    · rw [if_pos h2]; exact rask_B h ha life se n q0 q1 (by simpa using h2)
    rw [if_neg h2]
    have q2 : (d.se != se) = false := by simpa using h2
    by_cases h3 : n = d.la
    · rw [if_pos h3]
      have q3 : (n == d.la) = true := by simpa using h3
      by_cases h4 : n ≠ 0
      · rw [if_pos h4]; exact rask_C h ha life se n q0 q1 q2 q3 (by simpa using h4)
      · rw [if_neg h4]; exact rask_D h ha life se n q0 q1 q2 (by omega) hn.2 q3 (by simpa using h4) (by simp; omega)
    · rw [if_neg h3]
      have q3 : (n == d.la) = false := by simpa using h3
      by_cases h5 : n = d.la + 1
      · rw [if_pos h5]; exact rask_E h ha life se n q0 q1 q2 (by omega) hn.2 q3 (by simp; omega) (decide_eq_true (by omega))
      · rw [if_neg h5]
        by_cases h6 : n = -9223372036854775808
        · exact rask_G h ha life se n q0 q1 q2 q3 h6
        · exact rask_F h ha life se n q0 q1 q2 (by omega) hn.2 q3 (by simp; omega)

end
end Go.Proofs.Ytaikogbeaohmhaa
