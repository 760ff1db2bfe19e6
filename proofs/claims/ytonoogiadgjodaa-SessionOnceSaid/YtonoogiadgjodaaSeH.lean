import Derived.Test.YtonoogiadgjodaaSeG
namespace Go.Proofs.Ytonoogiadgjodaa
open Go.RowKit

theorem Try.infoDk : (Try.prog.info? 96).map (fun i => (i.zero, i.size, i.bytes)) = some (some (.agg #[.int .i64 0, .int .i64 0, .int .i64 0, .int .i64 0, .string ByteArray.empty]), 5, 48) := by kernel_rfl
theorem info_parts {t : TypeId} {z : Option Value} {s b : Nat} (h : (Try.prog.info? t).map (fun i => (i.zero, i.size, i.bytes)) = some (z, s, b)) : ∃ i, Try.prog.info? t = some i ∧ i.zero = z ∧ i.size = s ∧ i.bytes = b := by
  cases hi : Try.prog.info? t with
  | none => rw [hi] at h; cases h
  | some i => rw [hi] at h; simp at h; exact ⟨i, rfl, h.1, h.2.1, h.2.2⟩
theorem made_rows0 : (madeCells (Value.cells (.agg #[.int .i64 0, .int .i64 0, .int .i64 0, .int .i64 0, .string ByteArray.empty])) (0 * 5)).toList = dks (newD 0) := by kernel_rfl
theorem made_rows1 : (madeCells (Value.cells (.agg #[.int .i64 0, .int .i64 0, .int .i64 0, .int .i64 0, .string ByteArray.empty])) (1 * 5)).toList = dks (newD 1) := by kernel_rfl
theorem made_rows2 : (madeCells (Value.cells (.agg #[.int .i64 0, .int .i64 0, .int .i64 0, .int .i64 0, .string ByteArray.empty])) (2 * 5)).toList = dks (newD 2) := by kernel_rfl
theorem made_rows3 : (madeCells (Value.cells (.agg #[.int .i64 0, .int .i64 0, .int .i64 0, .int .i64 0, .string ByteArray.empty])) (3 * 5)).toList = dks (newD 3) := by kernel_rfl
theorem made_rows4 : (madeCells (Value.cells (.agg #[.int .i64 0, .int .i64 0, .int .i64 0, .int .i64 0, .string ByteArray.empty])) (4 * 5)).toList = dks (newD 4) := by kernel_rfl
theorem made_rows5 : (madeCells (Value.cells (.agg #[.int .i64 0, .int .i64 0, .int .i64 0, .int .i64 0, .string ByteArray.empty])) (5 * 5)).toList = dks (newD 5) := by kernel_rfl
theorem made_rows6 : (madeCells (Value.cells (.agg #[.int .i64 0, .int .i64 0, .int .i64 0, .int .i64 0, .string ByteArray.empty])) (6 * 5)).toList = dks (newD 6) := by kernel_rfl
theorem made_rows7 : (madeCells (Value.cells (.agg #[.int .i64 0, .int .i64 0, .int .i64 0, .int .i64 0, .string ByteArray.empty])) (7 * 5)).toList = dks (newD 7) := by kernel_rfl
theorem made_rows8 : (madeCells (Value.cells (.agg #[.int .i64 0, .int .i64 0, .int .i64 0, .int .i64 0, .string ByteArray.empty])) (8 * 5)).toList = dks (newD 8) := by kernel_rfl
theorem made_rows {n : Nat} (h : n ≤ 8) : (madeCells (Value.cells (.agg #[.int .i64 0, .int .i64 0, .int .i64 0, .int .i64 0, .string ByteArray.empty])) (n * 5)).toList = dks (newD n) := by
  match n, h with
  | 0, _ => exact made_rows0
  | 1, _ => exact made_rows1
  | 2, _ => exact made_rows2
  | 3, _ => exact made_rows3
  | 4, _ => exact made_rows4
  | 5, _ => exact made_rows5
  | 6, _ => exact made_rows6
  | 7, _ => exact made_rows7
  | 8, _ => exact made_rows8
  | n + 9, h => omega
theorem newD_len (n : Nat) : (newD n).length = n := List.length_replicate
theorem newD_ok (n : Nat) : DOk (newD n) := by
  intro i d h
  unfold newD at h
  rw [List.getElem?_replicate] at h
  split at h
  · injection h with h; subst h; decide
  · cases h
/-- what a call of NewTable leaves -/
def TPost (x : Int) (w : World) (e : Ending) (w' : World) : Prop :=
  (¬ (1 ≤ x ∧ x ≤ 8) ∧ e = .returned (.tuple #[.pointer none, .int .i64 130]) ∧ w' = w) ∨ (∃ n b g cap : Nat, x = (n : Int) ∧ 1 ≤ n ∧ n ≤ 8 ∧ e = .returned (.tuple #[.pointer (some ⟨b, 0, none⟩), .int .i64 0]) ∧ Tm 92 w.heap.size w' b g cap (newD n) ∧ Below w.heap.size w w')
set_option maxHeartbeats 1000000 in
theorem tnew_any (w : World) (x : Int) : Calls Try.prog 14 #[.int .i64 x] w (TPost x w) := by
  by_cases h1 : x < 1
  · go_enter Try.func14, Try.ntmps14
    go_wp2
    go_ret2
    exact .inl ⟨by omega, rfl, rfl⟩
  by_cases h2 : 8 < x
  · go_enter Try.func14, Try.ntmps14
    go_wp2
    go_ret2
    exact .inl ⟨by omega, rfl, rfl⟩
  obtain ⟨n, rfl⟩ : ∃ n : Nat, x = (n : Int) := ⟨x.toNat, by omega⟩
  have hn1 : 1 ≤ n := by omega
  have hn8 : n ≤ 8 := by omega
  obtain ⟨i0, hi0, hz0, hz1, hz2⟩ := info_parts Try.infoDk
  obtain ⟨w1, hmk, ho1, hg1⟩ := run_make_full (P := Try.prog) w w.heap.size 90 96 i0 _ 5 Try.underlying90 hi0 hz0 hz1 .i64 .i64 n (by rw [hz2]; omega) (by unfold maxLen; omega) (Nat.le_refl _)
  rw [made_rows hn8] at ho1
  have HO := hide ho1
  have HG := hide hg1
  clear ho1 hg1 hi0 hz0 hz1 hz2
  have t1 : decide ((n : Int) < 1) = false := decide_eq_false h1
  have t2 : decide ((8 : Int) < (n : Int)) = false := decide_eq_false h2
  have t1n : decide (n < 1) = false := decide_eq_false (by omega)
  have t2n : decide (8 < n) = false := decide_eq_false (by omega)
  have HN := hide (And.intro hn1 hn8)
  clear h1 h2 hn1 hn8
  go_enter Try.func14, Try.ntmps14
  go_wp2
  go_ret2
  have hbw : Below w.heap.size w w1 := (Below.refl _ w).grown HG.out (Nat.le_refl _) (fun k hk => by cases hk)
  refine .inr ⟨n, w1.heap.size, w.heap.size, n, rfl, HN.out.1, HN.out.2, rfl, ⟨?_, ?_, hbw.size, by rw [newD_len]; exact HN.out.2⟩, hbw.alloc hbw.size _⟩
  · rw [newD_len]; exact heap_alloc_new w1 _
  · rw [newD_len]; exact HO.out.alloc _
section
variable {B : Nat} {w : World} {b g cap : Nat} {D : List Dk}
/-- a slot's row, as the program's row tells it -/
def rowR (D : List Dk) (s : Int) : Dk × Bool := match atD D s with | none => (dk0, false) | some d => if d.li = 0 then (dk0, false) else (d, true)
theorem results_cb {fn : Func} {p t : Tmp} {ty : TypeId} (h : fn.results = #[.cell p ty, .tmp t]) (tmps : Array Value) (P : Program) (w : World) :
    (results fn tmps).run P w = ((asAddr (tmps.getD p undef)).run P w).andThen fun a w₁ => ((loadVar ty a).run P w₁).andThen fun v w₂ => .ok (.tuple #[v, tmps.getD t undef]) w₂ := by
  simp only [results, h]
  simp [Sem.run_bind, Result.andThen]
set_option maxHeartbeats 2000000 in
set_option maxRecDepth 8000 in
theorem row_any (h : Tm 92 B w b g cap D) (s : Int) : Calls Try.prog 57 #[.pointer (some ⟨b, 0, none⟩), .int .i64 s] w fun e w' => e = .returned (.tuple #[(rowR D s).1.val, .bool (rowR D s).2]) ∧ Below w.heap.size w w' := by
  have hl := h.lt
  have hgl := h.gl
  have n8 := h.n8
  have HH := hide (has_any (h.alloc (.cells #[.int .i64 0, .int .i64 0, .int .i64 0, .int .i64 0, .string ⟨#[]⟩] 96)) s)
  have c0 := h.c
  unfold rowR
  cases ha : atD D s with
  | none =>
    rw [ha] at HH
    simp only [Option.isSome] at HH
    clear h ha
    go_enter Try.func57, Try.ntmps57
    go_wp2_with fail
    refine HH.out.mono ?_
    rintro e w1 ⟨rfl, rfl⟩
    go_wp2_with fail
    refine bodyPost_ret (by rw [results_cb (fn := Try.f57) rfl]; go_simp; rfl) rfl ?_
    exact ⟨rfl, below_alloc w _⟩
  | some d =>
    rw [ha] at HH
    simp only [Option.isSome] at HH ⊢
    obtain ⟨i, rfl, hi, hd⟩ := atD_some ha
    obtain ⟨f0, f1, f2, f3, f4⟩ := h.f hd
    have t2 : (i : Int) < (D.length : Int) := by omega
    clear h ha hd
    by_cases h0 : d.li = 0
    · rw [if_pos h0]
      have b0 : (d.li == 0) = true := by simpa using h0
      clear h0
      go_enter Try.func57, Try.ntmps57
      go_wp2_with fail
      refine HH.out.mono ?_
      rintro e w1 ⟨rfl, rfl⟩
      go_wp2_with fail
      refine bodyPost_ret (by rw [results_cb (fn := Try.f57) rfl]; go_simp; rfl) rfl ?_
      exact ⟨rfl, below_alloc w _⟩
    · rw [if_neg h0]
      have b0 : (d.li == 0) = false := by simpa using h0
      clear h0
      go_enter Try.func57, Try.ntmps57
      go_wp2_with fail
      refine HH.out.mono ?_
      rintro e w1 ⟨rfl, rfl⟩
      go_wp2_with fail
      refine bodyPost_ret (by rw [results_cb (fn := Try.f57) rfl]; go_simp; rfl) rfl ?_
      exact ⟨rfl, below_alloc w _⟩

set_option maxHeartbeats 2000000 in
set_option maxRecDepth 8000 in
theorem thello_any (h : Tm 92 B w b g cap D) (s life : Int) : Calls Try.prog 30 #[.pointer (some ⟨b, 0, none⟩), .int .i64 s, .int .i64 life] w fun e w' => e = .returned (.tuple #[.int .i64 (tHello D s life).1, .int .i64 (tHello D s life).2]) ∧ Below w.heap.size w w' := by
  have n8 := h.n8
  have HH := hide (has_any h s)
  have c0 := h.c
  have HC := hide (counts_any w life)
  unfold tHello
  cases ha : atD D s with
  | none =>
    rw [ha] at HH
    simp only [Option.isSome] at HH
    clear h ha
    go_enter Try.func30, Try.ntmps30
    go_wp2_with fail
    refine HH.out.mono ?_
    rintro e w1 ⟨rfl, rfl⟩
    go_wp2_with fail
    go_ret2
    exact ⟨rfl, Below.refl _ _⟩
  | some d =>
    rw [ha] at HH
    simp only [Option.isSome] at HH ⊢
    obtain ⟨i, rfl, hi, hd⟩ := atD_some ha
    obtain ⟨f0, f1, f2, f3, f4⟩ := h.f hd
    have t2 : (i : Int) < (D.length : Int) := by omega
    clear h ha hd
    by_cases hc : cnt life
    · rw [decide_eq_true hc] at HC
      rw [if_neg (fun x => x hc)]
      clear hc
      by_cases hg : life < d.li
      · rw [if_pos hg]
        have tg : decide (life < d.li) = true := decide_eq_true hg
        clear hg
        go_enter Try.func30, Try.ntmps30
        go_wp2_with fail
        refine HH.out.mono ?_
        rintro e w1 ⟨rfl, rfl⟩
        go_wp2_with fail
        refine HC.out.mono ?_
        rintro e w1 ⟨rfl, rfl⟩
        go_wp2_with fail
        go_ret2
        exact ⟨rfl, Below.refl _ _⟩
      · rw [if_neg hg]
        have tg : decide (life < d.li) = false := decide_eq_false hg
        clear hg
        by_cases he : d.li = life
        · rw [if_pos he]
          have te : (d.li == life) = true := by simpa using he
          clear he
          go_enter Try.func30, Try.ntmps30
          go_wp2_with fail
          refine HH.out.mono ?_
          rintro e w1 ⟨rfl, rfl⟩
          go_wp2_with fail
          refine HC.out.mono ?_
          rintro e w1 ⟨rfl, rfl⟩
          go_wp2_with fail
          go_quiet (fail)
          go_wp2_with fail
          go_ret2
          exact ⟨rfl, below_drewN (Below.refl _ _) _⟩
        · rw [if_neg he]
          have te : (d.li == life) = false := by simpa using he
          clear he
          go_enter Try.func30, Try.ntmps30
          go_wp2_with fail
          refine HH.out.mono ?_
          rintro e w1 ⟨rfl, rfl⟩
          go_wp2_with fail
          refine HC.out.mono ?_
          rintro e w1 ⟨rfl, rfl⟩
          go_wp2_with fail
          go_ret2
          exact ⟨rfl, Below.refl _ _⟩
    · rw [decide_eq_false hc] at HC
      rw [if_pos hc]
      clear hc
      go_enter Try.func30, Try.ntmps30
      go_wp2_with fail
      refine HH.out.mono ?_
      rintro e w1 ⟨rfl, rfl⟩
      go_wp2_with fail
      refine HC.out.mono ?_
      rintro e w1 ⟨rfl, rfl⟩
      go_wp2_with fail
      go_ret2
      exact ⟨rfl, Below.refl _ _⟩

set_option maxHeartbeats 2000000 in
set_option maxRecDepth 8000 in
theorem topen_any (h : Tm 92 B w b g cap D) (s life se : Int) : Calls Try.prog 28 #[.pointer (some ⟨b, 0, none⟩), .int .i64 s, .int .i64 life, .int .i64 se] w fun e w' => e = .returned (.int .i64 (tOpen D s life se).e) ∧ Tm 92 B w' b g cap (tOpen D s life se).D ∧ On g w w' := by
  have n8 := h.n8
  have HT := hide h
  have HH := hide (has_any h s)
  have c0 := h.c
  have HC := hide (counts_any w life)
  have HS := hide (counts_any w se)
  unfold tOpen
  cases ha : atD D s with
  | none =>
    rw [ha] at HH
    simp only [Option.isSome] at HH
    clear h ha
    go_enter Try.func28, Try.ntmps28
    go_wp2_with fail
    refine HH.out.mono ?_
    rintro e w1 ⟨rfl, rfl⟩
    go_wp2_with fail
    go_ret
    exact ⟨rfl, HT.out, On.refl _ _⟩
  | some d =>
    rw [ha] at HH
    simp only [Option.isSome] at HH ⊢
    obtain ⟨i, rfl, hi, hd⟩ := atD_some ha
    obtain ⟨f0, f1, f2, f3, f4⟩ := h.f hd
    have z := h.z
    have t2 : (i : Int) < (D.length : Int) := by omega
    clear h ha hd
    by_cases hc : cnt life
    · rw [decide_eq_true hc] at HC
      rw [if_neg (fun x => x hc)]
      clear hc
      by_cases hc : cnt se
      · rw [decide_eq_true hc] at HS
        rw [if_neg (fun x => x hc)]
        clear hc
        by_cases hg : life < d.li
        · rw [if_pos hg]
          have tg : decide (life < d.li) = true := decide_eq_true hg
          clear hg
          go_enter Try.func28, Try.ntmps28
          go_wp2_with fail
          refine HH.out.mono ?_
          rintro e w1 ⟨rfl, rfl⟩
          go_wp2_with fail
          refine HC.out.mono ?_
          rintro e w1 ⟨rfl, rfl⟩
          go_wp2_with fail
          refine HS.out.mono ?_
          rintro e w1 ⟨rfl, rfl⟩
          go_wp2_with fail
          go_ret
          exact ⟨rfl, HT.out, On.refl _ _⟩
        · rw [if_neg hg]
          have tg : decide (life < d.li) = false := decide_eq_false hg
          have HP := hide (HT.out.put (by decide) hi ⟨(i : Int), life, se, 0, e0⟩)
          have HO := hide ((On.refl g w).putD (i * 5) ⟨(i : Int), life, se, 0, e0⟩)
          clear hg HT
          go_enter Try.func28, Try.ntmps28
          go_wp2_with fail
          refine HH.out.mono ?_
          rintro e w1 ⟨rfl, rfl⟩
          go_wp2_with fail
          refine HC.out.mono ?_
          rintro e w1 ⟨rfl, rfl⟩
          go_wp2_with fail
          refine HS.out.mono ?_
          rintro e w1 ⟨rfl, rfl⟩
          go_wp2_with fail
          go_ret
          exact ⟨rfl, HP.out, HO.out⟩
      · rw [decide_eq_false hc] at HS
        rw [if_pos hc]
        clear hc
        go_enter Try.func28, Try.ntmps28
        go_wp2_with fail
        refine HH.out.mono ?_
        rintro e w1 ⟨rfl, rfl⟩
        go_wp2_with fail
        refine HC.out.mono ?_
        rintro e w1 ⟨rfl, rfl⟩
        go_wp2_with fail
        refine HS.out.mono ?_
        rintro e w1 ⟨rfl, rfl⟩
        go_wp2_with fail
        go_ret
        exact ⟨rfl, HT.out, On.refl _ _⟩
    · rw [decide_eq_false hc] at HC
      rw [if_pos hc]
      clear hc
      go_enter Try.func28, Try.ntmps28
      go_wp2_with fail
      refine HH.out.mono ?_
      rintro e w1 ⟨rfl, rfl⟩
      go_wp2_with fail
      refine HC.out.mono ?_
      rintro e w1 ⟨rfl, rfl⟩
      go_wp2_with fail
      go_ret
      exact ⟨rfl, HT.out, On.refl _ _⟩

end
end Go.Proofs.Ytonoogiadgjodaa
