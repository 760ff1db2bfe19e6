import Derived.Test.YtkfnedhllfdghaaGreatDoorMgAU

section
namespace Go.Proofs.YtkfnedhllfdghaaGreatDoor
set_option maxRecDepth 20000
open Go.RowKit Go.Shelf

theorem W2_in {w w4 : World} {B : Nat} {op n : Int} {a b c k : Nat} (g : (W2 w op a b c n k).grownBy w4 (some B)) (hB : B < w.heap.size) (i : Nat) (u : Value) (hi : (#[.int .i64 op, .int .i64 (a : Int), .int .i64 (b : Int), .int .i64 (c : Int), .int .i64 n, .int .u64 (k : Int)] : Array Value)[i]? = some u) : w4.cell? ⟨w.heap.size, i, none⟩ = some u :=
  g.cell (w2_cell rfl _ _ _ i u hi) (by simp; omega)
set_option maxRecDepth 20000 in
set_option maxHeartbeats 2000000 in
theorem jumpTo_ok (op : Int) (a b c n k : Nat) (ha : a < 8) (ra : Nat) (h64 : ra < 18446744073709551616) (many : Nat) (hk : Gn.intOk ra = true) (h0 : 0 ≤ Gn.intV ra) (h1 : Gn.intV ra ≤ (many : Int)) {w : World} {B fuel : Nat} {m : Mc} {v : Value} (h : Mb w B m v fuel) (hr : m.R[a]! = ra) (p : Option Addr) (cap : Nat) (hv : v = .slice p many cap) :
    Calls Tryz.prog 238 #[.pointer (some ⟨B, 0, none⟩), .agg #[.int .i64 op, .int .i64 (a : Int), .int .i64 (b : Int), .int .i64 (c : Int), .int .i64 (n : Int), .int .u64 (k : Int)]] w (APost w B v fuel (0, { m with pl := (Gn.intV ra).toNat }, 0, ByteArray.empty)) := by
  have HB := hide h
  have hlt := h.lt
  have hne : ¬ B = w.heap.size := by omega
  have hne1 : ¬ B = w.heap.size + 1 := by omega
  have za := h.z
  have hai : (a : Int) < 8 := by omega
  have ca := h.cell (h.l8.gR v fuel a ha)
  rw [hr] at ca
  have c2 := h.cell (h.l8.g_pl v fuel)
  have c0 : w.cell? ⟨B, 0, none⟩ = some (.slice p many cap) := by rw [← hv]; exact h.cell rfl
  have HC := hide (int_any ra h64)
  clear hv
  have H1 := hide (h.set (h.l8.s_pl v fuel (Gn.intV ra).toNat) (h.l8.of rfl rfl rfl))
  rw [int_yes hk] at HC
  obtain ⟨q, hq⟩ : ∃ q : Nat, Gn.intV ra = (q : Int) := ⟨(Gn.intV ra).toNat, by omega⟩
  rw [hq] at HC h1 H1
  rw [hq] at h0
  simp only [hq, Int.toNat_natCast] at H1 ⊢
  have b1 : ¬ (many : Int) < (q : Int) := by omega
  have b2 : ¬ (q : Int) < 0 := by omega
  clear hq hk h h0 h1
  go_enter Tryz.func238, Tryz.ntmps238
  go_wp2_with fail
  go_region_held3 (fun w' => w'.cell? ⟨w.heap.size, 1, none⟩ = some (.int .i64 (a : Int)) ∧ w'.cell? ⟨B, 3 + a, none⟩ = some (.int .u64 (ra : Int))) (go_keep) (first | (go_at_call 270; refine (HC.out _).mono ?_; rintro e w4 ⟨rfl, rfl⟩))
  go_wp2_with fail
  obtain ⟨q1, q2, q3⟩ := fin2 H1.out (i_grown_set w B 2 _) (size_set w B 2 _) (.cells #[.int .i64 op, .int .i64 (a : Int), .int .i64 (b : Int), .int .i64 (c : Int), .int .i64 (n : Int), .int .u64 (k : Int)] 189) (.int .i64 0) (.string ⟨#[]⟩)
  exact bodyPost_ret (results_cell_row (p := 4) (ty := 207) rfl _ _ (w.heap.size + 1) 207 _ (0, 0) _ rfl q1 Tryz.underlying207 rfl (by kernel_rfl)) rfl ⟨fun _ => rfl, fun h0 => absurd rfl h0, q2.drew, i_grown_drew q3⟩
set_option maxRecDepth 20000 in
set_option maxHeartbeats 2000000 in
theorem jumpTo_no1 (op : Int) (a b c n k : Nat) (ha : a < 8) (ra : Nat) (h64 : ra < 18446744073709551616) (many : Nat) (hk : Gn.intOk ra = false) {w : World} {B fuel : Nat} {m : Mc} {v : Value} (h : Mb w B m v fuel) (hr : m.R[a]! = ra) (p : Option Addr) (cap : Nat) (hv : v = .slice p many cap) :
    Calls Tryz.prog 238 #[.pointer (some ⟨B, 0, none⟩), .agg #[.int .i64 op, .int .i64 (a : Int), .int .i64 (b : Int), .int .i64 (c : Int), .int .i64 (n : Int), .int .u64 (k : Int)]] w (APost w B v fuel (4, m, 0, ByteArray.empty)) := by
  have HB := hide h
  have hlt := h.lt
  have hne : ¬ B = w.heap.size := by omega
  have hne1 : ¬ B = w.heap.size + 1 := by omega
  have za := h.z
  have hai : (a : Int) < 8 := by omega
  have ca := h.cell (h.l8.gR v fuel a ha)
  rw [hr] at ca
  have c2 := h.cell (h.l8.g_pl v fuel)
  have c0 : w.cell? ⟨B, 0, none⟩ = some (.slice p many cap) := by rw [← hv]; exact h.cell rfl
  have HC := hide (int_any ra h64)
  clear hv
  rw [int_no hk] at HC
  clear hk h
  go_enter Tryz.func238, Tryz.ntmps238
  go_wp2_with fail
  go_region_held3 (fun w' => w'.cell? ⟨w.heap.size, 1, none⟩ = some (.int .i64 (a : Int)) ∧ w'.cell? ⟨B, 3 + a, none⟩ = some (.int .u64 (ra : Int))) (go_keep) (first | (go_at_call 270; refine (HC.out _).mono ?_; rintro e w4 ⟨rfl, rfl⟩))
  go_wp2_with fail
  obtain ⟨q1, q2, q3⟩ := fin2 HB.out (w := w) ⟨rfl, rfl, rfl, Nat.le_refl _, fun _ _ _ => rfl⟩ rfl (.cells #[.int .i64 op, .int .i64 (a : Int), .int .i64 (b : Int), .int .i64 (c : Int), .int .i64 (n : Int), .int .u64 (k : Int)] 189) (.int .i64 0) (.string ⟨#[]⟩)
  exact ⟨rfl, fun h0 => absurd (show (4 : Nat) = 0 from h0) (by decide), fun _ => rfl, q2.drew, i_grown_drew q3⟩
set_option maxRecDepth 20000 in
set_option maxHeartbeats 2000000 in
theorem jumpTo_no2 (op : Int) (a b c n k : Nat) (ha : a < 8) (ra : Nat) (h64 : ra < 18446744073709551616) (many : Nat) (hk : Gn.intOk ra = true) (hx : ¬ (0 ≤ Gn.intV ra ∧ Gn.intV ra ≤ (many : Int))) {w : World} {B fuel : Nat} {m : Mc} {v : Value} (h : Mb w B m v fuel) (hr : m.R[a]! = ra) (p : Option Addr) (cap : Nat) (hv : v = .slice p many cap) :
    Calls Tryz.prog 238 #[.pointer (some ⟨B, 0, none⟩), .agg #[.int .i64 op, .int .i64 (a : Int), .int .i64 (b : Int), .int .i64 (c : Int), .int .i64 (n : Int), .int .u64 (k : Int)]] w (APost w B v fuel (4, m, 0, ByteArray.empty)) := by
  have HB := hide h
  have hlt := h.lt
  have hne : ¬ B = w.heap.size := by omega
  have hne1 : ¬ B = w.heap.size + 1 := by omega
  have za := h.z
  have hai : (a : Int) < 8 := by omega
  have ca := h.cell (h.l8.gR v fuel a ha)
  rw [hr] at ca
  have c2 := h.cell (h.l8.g_pl v fuel)
  have c0 : w.cell? ⟨B, 0, none⟩ = some (.slice p many cap) := by rw [← hv]; exact h.cell rfl
  have HC := hide (int_any ra h64)
  clear hv
  rw [int_yes hk] at HC
  generalize Gn.intV ra = q at *
  clear hk h
  rcases Int.lt_or_le q 0 with b1 | b1
  · go_enter Tryz.func238, Tryz.ntmps238
    go_wp2_with fail
    go_region_held3 (fun w' => w'.cell? ⟨w.heap.size, 1, none⟩ = some (.int .i64 (a : Int)) ∧ w'.cell? ⟨B, 3 + a, none⟩ = some (.int .u64 (ra : Int))) (go_keep) (first | (go_at_call 270; refine (HC.out _).mono ?_; rintro e w4 ⟨rfl, rfl⟩))
    go_wp2_with fail
    obtain ⟨q1, q2, q3⟩ := fin2 HB.out (w := w) ⟨rfl, rfl, rfl, Nat.le_refl _, fun _ _ _ => rfl⟩ rfl (.cells #[.int .i64 op, .int .i64 (a : Int), .int .i64 (b : Int), .int .i64 (c : Int), .int .i64 (n : Int), .int .u64 (k : Int)] 189) (.int .i64 0) (.string ⟨#[]⟩)
    exact ⟨rfl, fun h0 => absurd (show (4 : Nat) = 0 from h0) (by decide), fun _ => rfl, q2.drew, i_grown_drew q3⟩
  · have b2 : (many : Int) < q := by omega
    have b3 : ¬ q < 0 := by omega
    go_enter Tryz.func238, Tryz.ntmps238
    go_wp2_with fail
    go_region_held3 (fun w' => w'.cell? ⟨w.heap.size, 1, none⟩ = some (.int .i64 (a : Int)) ∧ w'.cell? ⟨B, 3 + a, none⟩ = some (.int .u64 (ra : Int))) (go_keep) (first | (go_at_call 270; refine (HC.out _).mono ?_; rintro e w4 ⟨rfl, rfl⟩))
    go_wp2_with fail
    obtain ⟨q1, q2, q3⟩ := fin2 HB.out (w := w) ⟨rfl, rfl, rfl, Nat.le_refl _, fun _ _ _ => rfl⟩ rfl (.cells #[.int .i64 op, .int .i64 (a : Int), .int .i64 (b : Int), .int .i64 (c : Int), .int .i64 (n : Int), .int .u64 (k : Int)] 189) (.int .i64 0) (.string ⟨#[]⟩)
    exact ⟨rfl, fun h0 => absurd (show (4 : Nat) = 0 from h0) (by decide), fun _ => rfl, q2.drew, i_grown_drew q3⟩
end Go.Proofs.YtkfnedhllfdghaaGreatDoor
end

section
namespace Go.Proofs.YtkfnedhllfdghaaGreatDoor
set_option maxRecDepth 20000
open Go.RowKit Go.Shelf

theorem DoE.drew1 {w w5 : World} {B fuel : Nat} {m : Mc} {v : Value} (h : DoE w w5 B m v fuel) : DoE w w5.drew B m v fuel := h.drew 1
set_option maxRecDepth 20000 in
set_option maxHeartbeats 2000000 in
theorem call_ok (op : Int) (a b c n k : Nat)  {w : World} {B fuel : Nat} {m : Mc} {v : Value} (h : Mb w B m v fuel) (hp : m.pn < 8) :
    Calls Tryz.prog 239 #[.pointer (some ⟨B, 0, none⟩), .agg #[.int .i64 op, .int .i64 (a : Int), .int .i64 (b : Int), .int .i64 (c : Int), .int .i64 (n : Int), .int .u64 (k : Int)]] w (APost w B v fuel (0, { m with P := m.P.set m.pn m.pl, pn := m.pn + 1, pl := n }, 0, ByteArray.empty)) := by
  have HB := hide h
  have hlt := h.lt
  have hne : ¬ B = w.heap.size := by omega
  have hne1 : ¬ B = w.heap.size + 1 := by omega
  have za := h.z
  have c2 := h.cell (h.l8.g_pl v fuel)
  have HE : Hid (DoE w (W2 w op a b c (n : Int) k) B m v fuel) := w2_E h
  have HE1 := hide HE.out.drew1
  obtain ⟨pl, hpl⟩ : ∃ pl, m.pl = pl := ⟨_, rfl⟩
  have HPU := hide (pushI_ok HE1.out.mb hp m.pl)
  rw [hpl] at c2 HPU ⊢
  go_enter Tryz.func239, Tryz.ntmps239
  go_wp2_with fail
  go_region_held3 (fun w' => w'.cell? ⟨B, 2, none⟩ = some (.int .i64 (pl : Int))) (first | exact k2 | go_keep) (first | (go_at_call 271; refine HPU.out.mono ?_; rintro e w4 ⟨rfl, hm4, hg4⟩; have k2 : w4.cell? ⟨B, 2, none⟩ = some (.int .i64 (pl : Int)) := hm4.cell (hm4.l8.g_pl v fuel)))
  have HW := hide (HE1.out.grow hlt hg4 hm4)
  have i4 : w4.cell? ⟨w.heap.size, 4, none⟩ = some (.int .i64 (n : Int)) := hg4.cell (a := ⟨w.heap.size, 4, none⟩) (w2_cell (w := w) (w' := w) rfl _ _ _ 4 _ rfl) (by simp; omega)
  obtain ⟨r0, r1, rf⟩ := HW.out.act
  have z4 := hm4.z
  have HW2 := hide (HW.out.set hlt (HW.out.mb.l8.s_pl v fuel n) (HW.out.mb.l8.of rfl rfl rfl))
  clear hg4 hm4 c2
  go_wp2_with fail
  obtain ⟨q1, q2, q3⟩ := HW2.out.fin hlt (.int .i64 0) (.string ⟨#[]⟩)
  exact bodyPost_ret (results_cell_row (p := 4) (ty := 207) rfl _ _ (w.heap.size + 1) 207 _ (0, 0) _ rfl q1 Tryz.underlying207 rfl (by kernel_rfl)) rfl ⟨fun _ => rfl, fun h0 => absurd rfl h0, q2, q3⟩
set_option maxRecDepth 20000 in
set_option maxHeartbeats 2000000 in
theorem call_no (op : Int) (a b c n k : Nat)  {w : World} {B fuel : Nat} {m : Mc} {v : Value} (h : Mb w B m v fuel) (hp : m.pn = 8) :
    Calls Tryz.prog 239 #[.pointer (some ⟨B, 0, none⟩), .agg #[.int .i64 op, .int .i64 (a : Int), .int .i64 (b : Int), .int .i64 (c : Int), .int .i64 (n : Int), .int .u64 (k : Int)]] w (APost w B v fuel (2, m, 0, ByteArray.empty)) := by
  have HB := hide h
  have hlt := h.lt
  have hne : ¬ B = w.heap.size := by omega
  have hne1 : ¬ B = w.heap.size + 1 := by omega
  have za := h.z
  have c2 := h.cell (h.l8.g_pl v fuel)
  have HE : Hid (DoE w (W2 w op a b c (n : Int) k) B m v fuel) := w2_E h
  have HE1 := hide HE.out.drew1
  obtain ⟨pl, hpl⟩ : ∃ pl, m.pl = pl := ⟨_, rfl⟩
  have HPU := hide (pushI_no HE1.out.mb hp m.pl)
  rw [hpl] at c2 HPU
  go_enter Tryz.func239, Tryz.ntmps239
  go_wp2_with fail
  refine wp_region_held_drew (S := fun w' => w'.cell? ⟨B, 2, none⟩ = some (.int .i64 (pl : Int))) (by kernel_rfl) (Lib.cell?_alloc_some _ (Lib.cell?_alloc_some _ c2)) (fun hH => ?_)
  refine wpAnyH_take (i := 0) (v := .pointer (some ⟨B, 0, none⟩)) rfl (by kernel_rfl) (by kernel_rfl) (by kernel_rfl) (fun _ _ _ h => h) (Or.inl ⟨by kernel_rfl, fun w9 hS => by kernel_rfl⟩) hH ?_
  simp only [Act.put, List.setIfInBounds_toArray]
  refine wpAnyH_take (i := 1) (v := .pointer (some ⟨B, 0, none⟩)) rfl (by kernel_rfl) (by kernel_rfl) (by kernel_rfl) (fun _ _ _ h => h) (Or.inl ⟨by kernel_rfl, fun w9 hS => by kernel_rfl⟩) hH ?_
  simp only [Act.put]
  refine wpAnyH_take (i := 2) (v := .pointer (some ⟨B, 20, none⟩)) rfl (by kernel_rfl) (by kernel_rfl) (by kernel_rfl) (fun _ _ _ h => h) (Or.inl ⟨by kernel_rfl, fun w9 hS => by kernel_rfl⟩) hH ?_
  simp only [Act.put]
  refine wpAnyH_take (i := 3) (v := .pointer (some ⟨B, 0, none⟩)) rfl (by kernel_rfl) (by kernel_rfl) (by kernel_rfl) (fun _ _ _ h => h) (Or.inl ⟨by kernel_rfl, fun w9 hS => by kernel_rfl⟩) hH ?_
  simp only [Act.put]
  refine wpAnyH_take (i := 4) (v := .pointer (some ⟨B, 0, none⟩)) rfl (by kernel_rfl) (by kernel_rfl) (by kernel_rfl) (fun _ _ _ h => h) (Or.inl ⟨by kernel_rfl, fun w9 hS => by kernel_rfl⟩) hH ?_
  simp only [Act.put]
  refine wpAnyH_take (i := 5) (v := .pointer (some ⟨B, 2, none⟩)) rfl (by kernel_rfl) (by kernel_rfl) (by kernel_rfl) (fun _ _ _ h => h) (Or.inl ⟨by kernel_rfl, fun w9 hS => by kernel_rfl⟩) hH ?_
  simp only [Act.put]
  refine wpAnyH_take (i := 6) (v := .int .i64 (pl : Int)) rfl (by kernel_rfl) (by kernel_rfl) (by kernel_rfl) (fun _ _ _ h => h) (Or.inl ⟨by kernel_rfl, fun w9 hS => by go_simp⟩) hH ?_
  simp only [Act.put]
  refine wpAnyH_ready (rs := [7]) (by kernel_rfl) (by simp) ?_
  refine AllReadyH.cons rfl (fun K hK => ?_) AllReadyH.nil
  go_simp
  refine HPU.out.mono ?_
  rintro e w4 ⟨he, rfl⟩
  unfold Traps at he
  subst he
  exact ⟨rfl, fun h0 => absurd (show (2 : Nat) = 0 from h0) (by decide), fun _ => rfl, HE1.out.mb, HE1.out.gr⟩
set_option maxRecDepth 20000 in
set_option maxHeartbeats 2000000 in
theorem ret_ok (op : Int) (a b c n k : Nat)  {w : World} {B fuel : Nat} {m : Mc} {v : Value} (h : Mb w B m v fuel) (hp : m.pn ≤ 8) (h0 : m.pn ≠ 0) :
    Calls Tryz.prog 240 #[.pointer (some ⟨B, 0, none⟩), .agg #[.int .i64 op, .int .i64 (a : Int), .int .i64 (b : Int), .int .i64 (c : Int), .int .i64 (n : Int), .int .u64 (k : Int)]] w (APost w B v fuel (0, { m with pn := m.pn - 1, pl := m.P[m.pn - 1]! }, 0, ByteArray.empty)) := by
  have HB := hide h
  have hlt := h.lt
  have hne : ¬ B = w.heap.size := by omega
  have hne1 : ¬ B = w.heap.size + 1 := by omega
  have za := h.z
  have c2 := h.cell (h.l8.g_pl v fuel)
  have HE : Hid (DoE w (W2 w op a b c (n : Int) k) B m v fuel) := w2_E h
  have HE1 := hide HE.out.drew1
  obtain ⟨y, hy⟩ : ∃ y, m.P[m.pn - 1]! = y := ⟨_, rfl⟩
  have HPU := hide (popI_ok HE.out.mb hp h0)
  rw [hy] at HPU ⊢
  go_enter Tryz.func240, Tryz.ntmps240
  go_wp2_with fail
  refine HPU.out.mono ?_
  rintro e w4 ⟨rfl, hm4, hg4⟩
  have k2 : w4.cell? ⟨B, 2, none⟩ = some (.int .i64 (m.pl : Int)) := hm4.cell (hm4.l8.g_pl v fuel)
  have HW := hide (HE.out.grow hlt hg4 hm4)
  obtain ⟨r0, r1, rf⟩ := HW.out.act
  have z4 := hm4.z
  have HW2 := hide (HW.out.set hlt (HW.out.mb.l8.s_pl v fuel y) (HW.out.mb.l8.of rfl rfl rfl))
  clear hg4 hm4 c2
  go_wp2_with fail
  obtain ⟨q1, q2, q3⟩ := HW2.out.fin hlt (.int .i64 0) (.string ⟨#[]⟩)
  exact bodyPost_ret (results_cell_row (p := 4) (ty := 207) rfl _ _ (w.heap.size + 1) 207 _ (0, 0) _ rfl q1 Tryz.underlying207 rfl (by kernel_rfl)) rfl ⟨fun _ => rfl, fun h0 => absurd rfl h0, q2, q3⟩
set_option maxRecDepth 20000 in
set_option maxHeartbeats 2000000 in
theorem ret_no (op : Int) (a b c n k : Nat)  {w : World} {B fuel : Nat} {m : Mc} {v : Value} (h : Mb w B m v fuel) (hp : m.pn = 0) :
    Calls Tryz.prog 240 #[.pointer (some ⟨B, 0, none⟩), .agg #[.int .i64 op, .int .i64 (a : Int), .int .i64 (b : Int), .int .i64 (c : Int), .int .i64 (n : Int), .int .u64 (k : Int)]] w (APost w B v fuel (3, m, 0, ByteArray.empty)) := by
  have HB := hide h
  have hlt := h.lt
  have hne : ¬ B = w.heap.size := by omega
  have hne1 : ¬ B = w.heap.size + 1 := by omega
  have za := h.z
  have HE : Hid (DoE w (W2 w op a b c (n : Int) k) B m v fuel) := w2_E h
  have HE1 := hide HE.out.drew1
  have HPU := hide (popI_no HE.out.mb hp)
  go_enter Tryz.func240, Tryz.ntmps240
  go_wp2_with fail
  refine HPU.out.mono ?_
  rintro e w4 ⟨he, rfl⟩
  unfold Traps at he
  subst he
  go_wp2_with fail
  exact ⟨rfl, fun h0 => absurd (show (3 : Nat) = 0 from h0) (by decide), fun _ => rfl, HE.out.mb, HE.out.gr⟩
set_option maxRecDepth 20000 in
set_option maxHeartbeats 2000000 in
theorem push_ok (op : Int) (a b c n k : Nat) (ha : a < 8) (ra : Nat) {w : World} {B fuel : Nat} {m : Mc} {v : Value} (h : Mb w B m v fuel) (hr : m.R[a]! = ra) (hp : m.sn < 8) :
    Calls Tryz.prog 241 #[.pointer (some ⟨B, 0, none⟩), .agg #[.int .i64 op, .int .i64 (a : Int), .int .i64 (b : Int), .int .i64 (c : Int), .int .i64 (n : Int), .int .u64 (k : Int)]] w (APost w B v fuel (0, { m with S := m.S.set m.sn ra, sn := m.sn + 1 }, 0, ByteArray.empty)) := by
  have HB := hide h
  have hlt := h.lt
  have hne : ¬ B = w.heap.size := by omega
  have hne1 : ¬ B = w.heap.size + 1 := by omega
  have za := h.z
  have hai : (a : Int) < 8 := by omega
  have ca := h.cell (h.l8.gR v fuel a ha)
  rw [hr] at ca
  have HE : Hid (DoE w (W2 w op a b c (n : Int) k) B m v fuel) := w2_E h
  have HE1 := hide HE.out.drew1
  have HPU := hide (pushU_ok HE1.out.mb hp ra)
  go_enter Tryz.func241, Tryz.ntmps241
  go_wp2_with fail
  go_region_held3 (fun w' => w'.cell? ⟨w.heap.size, 1, none⟩ = some (.int .i64 (a : Int)) ∧ w'.cell? ⟨B, 3 + a, none⟩ = some (.int .u64 (ra : Int))) (first | exact ⟨k1, k2⟩ | go_keep) (first | (go_at_call 273; refine HPU.out.mono ?_; rintro e w4 ⟨rfl, hm4, hg4⟩; have k2 : w4.cell? ⟨B, 3 + a, none⟩ = some (.int .u64 (ra : Int)) := (by rw [← hr]; exact hm4.cell (hm4.l8.gR v fuel a ha)); have k1 : w4.cell? ⟨w.heap.size, 1, none⟩ = some (.int .i64 (a : Int)) := hg4.cell (a := ⟨w.heap.size, 1, none⟩) (w2_cell (w := w) (w' := w) rfl _ _ _ 1 _ rfl) (by simp; omega)))
  have HW := hide (HE1.out.grow hlt hg4 hm4)
  obtain ⟨r0, r1, rf⟩ := HW.out.act
  clear hg4 hm4 ca
  go_wp2_with fail
  obtain ⟨q1, q2, q3⟩ := HW.out.fin hlt (.int .i64 0) (.string ⟨#[]⟩)
  exact bodyPost_ret (results_cell_row (p := 4) (ty := 207) rfl _ _ (w.heap.size + 1) 207 _ (0, 0) _ rfl q1 Tryz.underlying207 rfl (by kernel_rfl)) rfl ⟨fun _ => rfl, fun h0 => absurd rfl h0, q2, q3⟩
set_option maxRecDepth 20000 in
set_option maxHeartbeats 2000000 in
theorem push_no (op : Int) (a b c n k : Nat) (ha : a < 8) (ra : Nat) {w : World} {B fuel : Nat} {m : Mc} {v : Value} (h : Mb w B m v fuel) (hr : m.R[a]! = ra) (hp : m.sn = 8) :
    Calls Tryz.prog 241 #[.pointer (some ⟨B, 0, none⟩), .agg #[.int .i64 op, .int .i64 (a : Int), .int .i64 (b : Int), .int .i64 (c : Int), .int .i64 (n : Int), .int .u64 (k : Int)]] w (APost w B v fuel (2, m, 0, ByteArray.empty)) := by
  have HB := hide h
  have hlt := h.lt
  have hne : ¬ B = w.heap.size := by omega
  have hne1 : ¬ B = w.heap.size + 1 := by omega
  have za := h.z
  have hai : (a : Int) < 8 := by omega
  have ca := h.cell (h.l8.gR v fuel a ha)
  rw [hr] at ca
  have HE : Hid (DoE w (W2 w op a b c (n : Int) k) B m v fuel) := w2_E h
  have HE1 := hide HE.out.drew1
  have HPU := hide (pushU_no HE1.out.mb hp ra)
  go_enter Tryz.func241, Tryz.ntmps241
  go_wp2_with fail
  refine wp_region_held_drew (S := (fun w' => w'.cell? ⟨w.heap.size, 1, none⟩ = some (.int .i64 (a : Int)) ∧ w'.cell? ⟨B, 3 + a, none⟩ = some (.int .u64 (ra : Int)))) (by kernel_rfl) ⟨w2_cell (w := w) (w' := w) rfl _ _ _ 1 _ rfl, Lib.cell?_alloc_some _ (Lib.cell?_alloc_some _ ca)⟩ (fun hH => ?_)
  refine wpAnyH_take (i := 0) (v := .pointer (some ⟨B, 0, none⟩)) rfl (by kernel_rfl) (by kernel_rfl) (by kernel_rfl) (fun _ _ _ h => h) (Or.inl ⟨by kernel_rfl, fun w9 hS => by kernel_rfl⟩) hH ?_
  simp only [Act.put, List.setIfInBounds_toArray]
  refine wpAnyH_take (i := 1) (v := .pointer (some ⟨B, 0, none⟩)) rfl (by kernel_rfl) (by kernel_rfl) (by kernel_rfl) (fun _ _ _ h => h) (Or.inl ⟨by kernel_rfl, fun w9 hS => by kernel_rfl⟩) hH ?_
  simp only [Act.put]
  refine wpAnyH_take (i := 2) (v := .pointer (some ⟨B, 11, none⟩)) rfl (by kernel_rfl) (by kernel_rfl) (by kernel_rfl) (fun _ _ _ h => h) (Or.inl ⟨by kernel_rfl, fun w9 hS => by kernel_rfl⟩) hH ?_
  simp only [Act.put]
  refine wpAnyH_take (i := 3) (v := .pointer (some ⟨B, 0, none⟩)) rfl (by kernel_rfl) (by kernel_rfl) (by kernel_rfl) (fun _ _ _ h => h) (Or.inl ⟨by kernel_rfl, fun w9 hS => by kernel_rfl⟩) hH ?_
  simp only [Act.put]
  refine wpAnyH_take (i := 4) (v := .pointer (some ⟨w.heap.size, 1, none⟩)) rfl (by kernel_rfl) (by kernel_rfl) (by kernel_rfl) (fun _ _ _ h => h) (Or.inl ⟨by kernel_rfl, fun w9 hS => by kernel_rfl⟩) hH ?_
  simp only [Act.put]
  refine wpAnyH_take (i := 5) (v := .int .i64 (a : Int)) rfl (by kernel_rfl) (by kernel_rfl) (by kernel_rfl) (fun _ _ _ h => h) (Or.inl ⟨by kernel_rfl, fun w9 hS => by have s1 := hS.1; go_simp⟩) hH ?_
  simp only [Act.put]
  refine wpAnyH_take (i := 6) (v := .pointer (some ⟨B, 0, none⟩)) rfl (by kernel_rfl) (by kernel_rfl) (by kernel_rfl) (fun _ _ _ h => h) (Or.inl ⟨by kernel_rfl, fun w9 hS => by kernel_rfl⟩) hH ?_
  simp only [Act.put]
  refine wpAnyH_take (i := 7) (v := .pointer (some ⟨B, 3, none⟩)) rfl (by kernel_rfl) (by kernel_rfl) (by kernel_rfl) (fun _ _ _ h => h) (Or.inl ⟨by kernel_rfl, fun w9 hS => by kernel_rfl⟩) hH ?_
  simp only [Act.put]
  refine wpAnyH_take (i := 8) (v := .pointer (some ⟨B, 3 + a, none⟩)) rfl (by kernel_rfl) (by kernel_rfl) (by kernel_rfl) (fun _ _ _ h => h) (Or.inl ⟨by kernel_rfl, fun w9 hS => by go_simp⟩) hH ?_
  simp only [Act.put]
  refine wpAnyH_take (i := 9) (v := .int .u64 (ra : Int)) rfl (by kernel_rfl) (by kernel_rfl) (by kernel_rfl) (fun _ _ _ h => h) (Or.inl ⟨by kernel_rfl, fun w9 hS => by have s2 := hS.2; go_simp⟩) hH ?_
  simp only [Act.put]
  refine wpAnyH_ready (rs := [10]) (by kernel_rfl) (by simp) ?_
  refine AllReadyH.cons rfl (fun K hK => ?_) AllReadyH.nil
  go_simp
  refine HPU.out.mono ?_
  rintro e w4 ⟨he, rfl⟩
  unfold Traps at he
  subst he
  exact ⟨rfl, fun h0 => absurd (show (2 : Nat) = 0 from h0) (by decide), fun _ => rfl, HE1.out.mb, HE1.out.gr⟩
end Go.Proofs.YtkfnedhllfdghaaGreatDoor
end

section
namespace Go.Proofs.YtkfnedhllfdghaaGreatDoor
set_option maxRecDepth 20000
open Go.RowKit Go.Shelf

/-- the library's tables, and that the machine's block is none of them -/
structure Env (w : World) (B : Nat) : Prop where
  t64 : Tab64 w
  t10 : Tab10 w
  n64 : B ≠ 2
  n10 : B ≠ 3
theorem tab64_grown {w w' : World} {B : Nat} (h : Tab64 w) (hn : B ≠ 2) (g : w.grownBy w' (some B)) : Tab64 w' := fun j hj => g.cell (h j hj) (by simp; omega)
theorem glob10 : Tryz.prog.globalNamed "internal/strconv.uint64pow10" = some 3 := by kernel_rfl
theorem tab10_grown {w w' : World} {B : Nat} (h : Tab10 w) (hn : B ≠ 3) (g : w.grownBy w' (some B)) : Tab10 w' := by
  unfold Tab10 Lib.TabIs World.var? at *
  simp only [glob10, Option.bind_some] at h ⊢
  have hlt : 3 < w.heap.size := by
    rcases Nat.lt_or_ge 3 w.heap.size with h' | h'
    · exact h'
    · rw [Array.getElem?_eq_none h'] at h; simp at h
  rw [g.block 3 hlt (by simp; omega)]
  exact h
theorem Env.grown {w w' : World} {B : Nat} (h : Env w B) (g : w.grownBy w' (some B)) : Env w' B := ⟨tab64_grown h.t64 h.n64 g, tab10_grown h.t10 h.n10 g, h.n64, h.n10⟩
set_option maxRecDepth 20000 in
set_option maxHeartbeats 2000000 in
theorem pop_ok (op : Int) (a b c n k : Nat) (ha : a < 8) (ra : Nat) {w : World} {B fuel : Nat} {m : Mc} {v : Value} (h : Mb w B m v fuel) (hr : m.R[a]! = ra) (hp : m.sn ≤ 8) (h0 : m.sn ≠ 0) :
    Calls Tryz.prog 242 #[.pointer (some ⟨B, 0, none⟩), .agg #[.int .i64 op, .int .i64 (a : Int), .int .i64 (b : Int), .int .i64 (c : Int), .int .i64 (n : Int), .int .u64 (k : Int)]] w (APost w B v fuel (0, { m with sn := m.sn - 1, R := m.R.set a m.S[m.sn - 1]! }, 0, ByteArray.empty)) := by
  have HB := hide h
  have hlt := h.lt
  have hne : ¬ B = w.heap.size := by omega
  have hne1 : ¬ B = w.heap.size + 1 := by omega
  have za := h.z
  have hai : (a : Int) < 8 := by omega
  have ca := h.cell (h.l8.gR v fuel a ha)
  rw [hr] at ca
  have HE : Hid (DoE w (W2 w op a b c (n : Int) k) B m v fuel) := w2_E h
  have HE1 := hide HE.out.drew1
  obtain ⟨y, hy⟩ : ∃ y, m.S[m.sn - 1]! = y := ⟨_, rfl⟩
  have HPU := hide (popU_ok HE1.out.mb hp h0)
  rw [hy] at HPU ⊢
  go_enter Tryz.func242, Tryz.ntmps242
  go_wp2_with fail
  go_region_held3 (fun w' => w'.cell? ⟨w.heap.size, 1, none⟩ = some (.int .i64 (a : Int))) (first | exact k3 | exact k1 | go_keep) (first | (go_at_call 274; refine HPU.out.mono ?_; rintro e w4 ⟨rfl, hm4, hg4⟩; have k1 : w4.cell? ⟨w.heap.size, 1, none⟩ = some (.int .i64 (a : Int)) := hg4.cell (a := ⟨w.heap.size, 1, none⟩) (w2_cell (w := w) (w' := w) rfl _ _ _ 1 _ rfl) (by simp; omega); have k3 : (w4.setCell ⟨B, 3 + a, none⟩ (.int .u64 (y : Int))).cell? ⟨w.heap.size, 1, none⟩ = some (.int .i64 (a : Int)) := (i_grown_set w4 B (3 + a) (.int .u64 (y : Int))).cell (a := ⟨w.heap.size, 1, none⟩) k1 (by simp; omega); have ca4 : w4.cell? ⟨B, 3 + a, none⟩ = some (.int .u64 (ra : Int)) := (by rw [← hr]; exact hm4.cell (hm4.l8.gR v fuel a ha)); have z4 := hm4.z))
  have HW := hide ((HE1.out.grow hlt hg4 hm4).set hlt (hm4.l8.gRs v fuel a y ha) (hm4.l8.setR a y))
  generalize w4.setCell ⟨B, 3 + a, none⟩ (.int .u64 (y : Int)) = w5 at *
  obtain ⟨r0, r1, rf⟩ := HW.out.act
  clear hg4 hm4 ca
  go_wp2_with fail
  obtain ⟨q1, q2, q3⟩ := HW.out.fin hlt (.int .i64 0) (.string ⟨#[]⟩)
  exact bodyPost_ret (results_cell_row (p := 4) (ty := 207) rfl _ _ (w.heap.size + 1) 207 _ (0, 0) _ rfl q1 Tryz.underlying207 rfl (by kernel_rfl)) rfl ⟨fun _ => rfl, fun h0 => absurd rfl h0, q2, q3⟩
set_option maxRecDepth 20000 in
set_option maxHeartbeats 2000000 in
theorem pop_no (op : Int) (a b c n k : Nat)  {w : World} {B fuel : Nat} {m : Mc} {v : Value} (h : Mb w B m v fuel) (hp : m.sn = 0) :
    Calls Tryz.prog 242 #[.pointer (some ⟨B, 0, none⟩), .agg #[.int .i64 op, .int .i64 (a : Int), .int .i64 (b : Int), .int .i64 (c : Int), .int .i64 (n : Int), .int .u64 (k : Int)]] w (APost w B v fuel (3, m, 0, ByteArray.empty)) := by
  have HB := hide h
  have hlt := h.lt
  have hne : ¬ B = w.heap.size := by omega
  have hne1 : ¬ B = w.heap.size + 1 := by omega
  have za := h.z
  have HE : Hid (DoE w (W2 w op a b c (n : Int) k) B m v fuel) := w2_E h
  have HE1 := hide HE.out.drew1
  have HPU := hide (popU_no HE1.out.mb hp)
  go_enter Tryz.func242, Tryz.ntmps242
  go_wp2_with fail
  refine wp_region_held_drew (S := fun w' => w'.cell? ⟨w.heap.size, 1, none⟩ = some (.int .i64 (a : Int))) (by kernel_rfl) (w2_cell (w := w) (w' := w) rfl _ _ _ 1 _ rfl) (fun hH => ?_)
  refine wpAnyH_take (i := 0) (v := .pointer (some ⟨B, 0, none⟩)) rfl (by kernel_rfl) (by kernel_rfl) (by kernel_rfl) (fun _ _ _ h => h) (Or.inl ⟨by kernel_rfl, fun w9 hS => by kernel_rfl⟩) hH ?_
  simp only [Act.put, List.setIfInBounds_toArray]
  refine wpAnyH_take (i := 1) (v := .pointer (some ⟨w.heap.size, 1, none⟩)) rfl (by kernel_rfl) (by kernel_rfl) (by kernel_rfl) (fun _ _ _ h => h) (Or.inl ⟨by kernel_rfl, fun w9 hS => by kernel_rfl⟩) hH ?_
  simp only [Act.put]
  refine wpAnyH_take (i := 2) (v := .int .i64 (a : Int)) rfl (by kernel_rfl) (by kernel_rfl) (by kernel_rfl) (fun _ _ _ h => h) (Or.inl ⟨by kernel_rfl, fun w9 hS => by go_simp⟩) hH ?_
  simp only [Act.put]
  refine wpAnyH_take (i := 3) (v := .pointer (some ⟨B, 0, none⟩)) rfl (by kernel_rfl) (by kernel_rfl) (by kernel_rfl) (fun _ _ _ h => h) (Or.inl ⟨by kernel_rfl, fun w9 hS => by kernel_rfl⟩) hH ?_
  simp only [Act.put]
  refine wpAnyH_take (i := 4) (v := .pointer (some ⟨B, 0, none⟩)) rfl (by kernel_rfl) (by kernel_rfl) (by kernel_rfl) (fun _ _ _ h => h) (Or.inl ⟨by kernel_rfl, fun w9 hS => by kernel_rfl⟩) hH ?_
  simp only [Act.put]
  refine wpAnyH_take (i := 5) (v := .pointer (some ⟨B, 11, none⟩)) rfl (by kernel_rfl) (by kernel_rfl) (by kernel_rfl) (fun _ _ _ h => h) (Or.inl ⟨by kernel_rfl, fun w9 hS => by kernel_rfl⟩) hH ?_
  simp only [Act.put]
  refine wpAnyH_take (i := 7) (v := .pointer (some ⟨B, 0, none⟩)) rfl (by kernel_rfl) (by kernel_rfl) (by kernel_rfl) (fun _ _ _ h => h) (Or.inl ⟨by kernel_rfl, fun w9 hS => by kernel_rfl⟩) hH ?_
  simp only [Act.put]
  refine wpAnyH_take (i := 8) (v := .pointer (some ⟨B, 3, none⟩)) rfl (by kernel_rfl) (by kernel_rfl) (by kernel_rfl) (fun _ _ _ h => h) (Or.inl ⟨by kernel_rfl, fun w9 hS => by kernel_rfl⟩) hH ?_
  simp only [Act.put]
  refine wpAnyH_ready (rs := [6]) (by kernel_rfl) (by simp) ?_
  refine AllReadyH.cons rfl (fun K hK => ?_) AllReadyH.nil
  go_simp
  refine HPU.out.mono ?_
  rintro e w4 ⟨he, rfl⟩
  unfold Traps at he
  subst he
  exact ⟨rfl, fun h0 => absurd (show (3 : Nat) = 0 from h0) (by decide), fun _ => rfl, HE1.out.mb, HE1.out.gr⟩
set_option maxRecDepth 20000 in
set_option maxHeartbeats 2000000 in
theorem emit_ok (op : Int) (a b c n k : Nat) (ha : a < 8) (ra : Nat) (h64 : ra < 18446744073709551616) {w : World} {B fuel : Nat} {m : Mc} {v : Value} (h : Mb w B m v fuel) (hr : m.R[a]! = ra) (hp : m.ch < 32) (hE : Env w B) :
    Calls Tryz.prog 243 #[.pointer (some ⟨B, 0, none⟩), .agg #[.int .i64 op, .int .i64 (a : Int), .int .i64 (b : Int), .int .i64 (c : Int), .int .i64 (n : Int), .int .u64 (k : Int)]] w (APost w B v fuel (0, { m with ch := m.ch + 1 }, 1, textB ra)) := by
  have HB := hide h
  have hlt := h.lt
  have hne : ¬ B = w.heap.size := by omega
  have hne1 : ¬ B = w.heap.size + 1 := by omega
  have za := h.z
  have hai : (a : Int) < 8 := by omega
  have ca := h.cell (h.l8.gR v fuel a ha)
  rw [hr] at ca
  have cc := h.cell (h.l8.g_ch v fuel)
  have H1 := h.set (h.l8.s_ch v fuel (m.ch + 1)) (h.l8.of rfl rfl rfl)
  have ca1 := H1.cell (H1.l8.gR v fuel a ha)
  rw [hr] at ca1
  have HF := fin2 H1 (i_grown_set w B 30 _) (size_set w B 30 _) (.cells #[.int .i64 op, .int .i64 (a : Int), .int .i64 (b : Int), .int .i64 (c : Int), .int .i64 (n : Int), .int .u64 (k : Int)] 189) (.int .i64 0) (.string ⟨#[]⟩)
  have HE1 := hide (hE.grown (i_grown_drew HF.2.2))
  have HD := hide (DoE.drew1 ⟨HF.1, HF.2.1, HF.2.2⟩)
  have k1 := w2_cell (size_set w B 30 (.int .i64 ((m.ch + 1 : Nat) : Int))) #[.int .i64 op, .int .i64 (a : Int), .int .i64 (b : Int), .int .i64 (c : Int), .int .i64 (n : Int), .int .u64 (k : Int)] 189 (.cells #[.int .i64 0, .string ⟨#[]⟩] 207) 1 _ rfl
  have k2 := HF.2.1.cell (HF.2.1.l8.gR v fuel a ha)
  rw [hr] at k2
  clear HF H1
  have HTX := hide (text_any ra h64)
  have hne2 : ¬ w.heap.size + 1 = B := by omega
  obtain ⟨q, hq⟩ : ∃ q, m.ch = q := ⟨_, rfl⟩
  simp only [hq] at cc hp HE1 HD k1 k2 ca1 ⊢
  have hb : ((q : Int) == 32) = false := by rw [beq_eq_false_iff_ne]; omega
  generalize textB ra = tx at *
  go_enter Tryz.func243, Tryz.ntmps243
  go_wp2_with fail
  go_region_held3 (fun w' => w'.cell? ⟨w.heap.size, 1, none⟩ = some (.int .i64 (a : Int)) ∧ w'.cell? ⟨B, 3 + a, none⟩ = some (.int .u64 (ra : Int))) (first | exact ⟨k1, k2⟩ | exact ⟨k5, k6⟩ | go_keep) (first | (go_at_call 275; refine (HTX.out _ HE1.out.t64 HE1.out.t10).mono ?_; rintro e w4 ⟨rfl, hb4⟩; have HW := hide (HD.out.grow hlt (i_grown_below hb4 _) (HD.out.mb.below hb4 HD.out.mb.lt)); have k5 : w4.cell? ⟨w.heap.size, 1, none⟩ = some (.int .i64 (a : Int)) := (hb4.cell (p := ⟨w.heap.size, 1, none⟩) (Nat.lt_trans (Nat.lt_succ_self _) (lt_of_block HD.out.rz))).trans k1; have k6 : w4.cell? ⟨B, 3 + a, none⟩ = some (.int .u64 (ra : Int)) := (hb4.cell (p := ⟨B, 3 + a, none⟩) HD.out.mb.lt).trans k2; obtain ⟨r0, r1, rf⟩ := HW.out.act))
  go_wp2_with fail
  obtain ⟨q1, q2, q3⟩ := HW.out.fin hlt (.int .i64 1) (.string tx)
  exact bodyPost_ret (results_cell_row (p := 4) (ty := 207) rfl _ _ (w.heap.size + 1) 207 _ (0, 0) _ rfl q1 Tryz.underlying207 rfl (by kernel_rfl)) rfl ⟨fun _ => rfl, fun h0 => absurd rfl h0, q2, q3⟩
set_option maxRecDepth 20000 in
set_option maxHeartbeats 2000000 in
theorem emit_no (op : Int) (a b c n k : Nat)  {w : World} {B fuel : Nat} {m : Mc} {v : Value} (h : Mb w B m v fuel) (hp : m.ch = 32) :
    Calls Tryz.prog 243 #[.pointer (some ⟨B, 0, none⟩), .agg #[.int .i64 op, .int .i64 (a : Int), .int .i64 (b : Int), .int .i64 (c : Int), .int .i64 (n : Int), .int .u64 (k : Int)]] w (APost w B v fuel (5, m, 0, ByteArray.empty)) := by
  have HB := hide h
  have hlt := h.lt
  have hne : ¬ B = w.heap.size := by omega
  have hne1 : ¬ B = w.heap.size + 1 := by omega
  have za := h.z
  have HE : Hid (DoE w (W2 w op a b c (n : Int) k) B m v fuel) := w2_E h
  have HE1 := hide HE.out.drew1
  have cc := h.cell (h.l8.g_ch v fuel)
  rw [hp] at cc
  go_enter Tryz.func243, Tryz.ntmps243
  go_wp2_with fail
  exact ⟨rfl, fun h0 => absurd (show (5 : Nat) = 0 from h0) (by decide), fun _ => rfl, HE.out.mb, HE.out.gr⟩
set_option maxRecDepth 20000 in
set_option maxHeartbeats 2000000 in
theorem write_ok (op : Int) (a b c n k : Nat) (ha : a < 8) (ra : Nat) (h64 : ra < 18446744073709551616) {w : World} {B fuel : Nat} {m : Mc} {v : Value} (h : Mb w B m v fuel) (hr : m.R[a]! = ra) (hp : m.pc < 16) (hE : Env w B) :
    Calls Tryz.prog 244 #[.pointer (some ⟨B, 0, none⟩), .agg #[.int .i64 op, .int .i64 (a : Int), .int .i64 (b : Int), .int .i64 (c : Int), .int .i64 (n : Int), .int .u64 (k : Int)]] w (APost w B v fuel (0, { m with pc := m.pc + 1 }, 2, textB ra)) := by
  have HB := hide h
  have hlt := h.lt
  have hne : ¬ B = w.heap.size := by omega
  have hne1 : ¬ B = w.heap.size + 1 := by omega
  have za := h.z
  have hai : (a : Int) < 8 := by omega
  have ca := h.cell (h.l8.gR v fuel a ha)
  rw [hr] at ca
  have cc := h.cell (h.l8.g_pc v fuel)
  have H1 := h.set (h.l8.s_pc v fuel (m.pc + 1)) (h.l8.of rfl rfl rfl)
  have ca1 := H1.cell (H1.l8.gR v fuel a ha)
  rw [hr] at ca1
  have HF := fin2 H1 (i_grown_set w B 31 _) (size_set w B 31 _) (.cells #[.int .i64 op, .int .i64 (a : Int), .int .i64 (b : Int), .int .i64 (c : Int), .int .i64 (n : Int), .int .u64 (k : Int)] 189) (.int .i64 0) (.string ⟨#[]⟩)
  have HE1 := hide (hE.grown (i_grown_drew HF.2.2))
  have HD := hide (DoE.drew1 ⟨HF.1, HF.2.1, HF.2.2⟩)
  have k1 := w2_cell (size_set w B 31 (.int .i64 ((m.pc + 1 : Nat) : Int))) #[.int .i64 op, .int .i64 (a : Int), .int .i64 (b : Int), .int .i64 (c : Int), .int .i64 (n : Int), .int .u64 (k : Int)] 189 (.cells #[.int .i64 0, .string ⟨#[]⟩] 207) 1 _ rfl
  have k2 := HF.2.1.cell (HF.2.1.l8.gR v fuel a ha)
  rw [hr] at k2
  clear HF H1
  have HTX := hide (text_any ra h64)
  have hne2 : ¬ w.heap.size + 1 = B := by omega
  obtain ⟨q, hq⟩ : ∃ q, m.pc = q := ⟨_, rfl⟩
  simp only [hq] at cc hp HE1 HD k1 k2 ca1 ⊢
  have hb : ((q : Int) == 16) = false := by rw [beq_eq_false_iff_ne]; omega
  generalize textB ra = tx at *
  go_enter Tryz.func244, Tryz.ntmps244
  go_wp2_with fail
  go_region_held3 (fun w' => w'.cell? ⟨w.heap.size, 1, none⟩ = some (.int .i64 (a : Int)) ∧ w'.cell? ⟨B, 3 + a, none⟩ = some (.int .u64 (ra : Int))) (first | exact ⟨k1, k2⟩ | exact ⟨k5, k6⟩ | go_keep) (first | (go_at_call 275; refine (HTX.out _ HE1.out.t64 HE1.out.t10).mono ?_; rintro e w4 ⟨rfl, hb4⟩; have HW := hide (HD.out.grow hlt (i_grown_below hb4 _) (HD.out.mb.below hb4 HD.out.mb.lt)); have k5 : w4.cell? ⟨w.heap.size, 1, none⟩ = some (.int .i64 (a : Int)) := (hb4.cell (p := ⟨w.heap.size, 1, none⟩) (Nat.lt_trans (Nat.lt_succ_self _) (lt_of_block HD.out.rz))).trans k1; have k6 : w4.cell? ⟨B, 3 + a, none⟩ = some (.int .u64 (ra : Int)) := (hb4.cell (p := ⟨B, 3 + a, none⟩) HD.out.mb.lt).trans k2; obtain ⟨r0, r1, rf⟩ := HW.out.act))
  go_wp2_with fail
  obtain ⟨q1, q2, q3⟩ := HW.out.fin hlt (.int .i64 2) (.string tx)
  exact bodyPost_ret (results_cell_row (p := 4) (ty := 207) rfl _ _ (w.heap.size + 1) 207 _ (0, 0) _ rfl q1 Tryz.underlying207 rfl (by kernel_rfl)) rfl ⟨fun _ => rfl, fun h0 => absurd rfl h0, q2, q3⟩
set_option maxRecDepth 20000 in
set_option maxHeartbeats 2000000 in
theorem write_no (op : Int) (a b c n k : Nat)  {w : World} {B fuel : Nat} {m : Mc} {v : Value} (h : Mb w B m v fuel) (hp : m.pc = 16) :
    Calls Tryz.prog 244 #[.pointer (some ⟨B, 0, none⟩), .agg #[.int .i64 op, .int .i64 (a : Int), .int .i64 (b : Int), .int .i64 (c : Int), .int .i64 (n : Int), .int .u64 (k : Int)]] w (APost w B v fuel (6, m, 0, ByteArray.empty)) := by
  have HB := hide h
  have hlt := h.lt
  have hne : ¬ B = w.heap.size := by omega
  have hne1 : ¬ B = w.heap.size + 1 := by omega
  have za := h.z
  have HE : Hid (DoE w (W2 w op a b c (n : Int) k) B m v fuel) := w2_E h
  have HE1 := hide HE.out.drew1
  have cc := h.cell (h.l8.g_pc v fuel)
  rw [hp] at cc
  go_enter Tryz.func244, Tryz.ntmps244
  go_wp2_with fail
  exact ⟨rfl, fun h0 => absurd (show (6 : Nat) = 0 from h0) (by decide), fun _ => rfl, HE.out.mb, HE.out.gr⟩
end Go.Proofs.YtkfnedhllfdghaaGreatDoor
end

section
namespace Go.Proofs.YtkfnedhllfdghaaGreatDoor
set_option maxRecDepth 20000
open Go.RowKit Go.Shelf

set_option maxHeartbeats 400000 in
theorem iless_any (b c : Nat) (w : World) : Calls Tryz.prog 231 #[.int .u64 (b : Int), .int .u64 (c : Int)] w fun e w' => e = .returned (.int .u64 ((if ltW b c = true then ofW 1 else ofW 0 : Nat) : Int)) ∧ ∃ n, w' = w.drewN n := by
  have HL := hide (less_any b c)
  have H1 := hide (of_any 1)
  have H0 := hide (of_any 0)
  by_cases hc : ltW b c = true
  · rw [if_pos hc]
    rw [hc] at HL
    generalize ofW 1 = o at *
    go_enter Tryz.func231, Tryz.ntmps231
    go_wp2_with (first | (go_at_call 266; refine (HL.out _).mono ?_; rintro e w1 ⟨rfl, rfl⟩) | (go_at_call 267; refine (H1.out _).mono ?_; rintro e w1 ⟨rfl, rfl⟩))
    go_ret
    exact ⟨rfl, 0, rfl⟩
  · rw [if_neg hc]
    rw [Bool.not_eq_true] at hc
    rw [hc] at HL
    generalize ofW 0 = o at *
    go_enter Tryz.func231, Tryz.ntmps231
    go_wp2_with (first | (go_at_call 266; refine (HL.out _).mono ?_; rintro e w1 ⟨rfl, rfl⟩) | (go_at_call 267; refine (H0.out _).mono ?_; rintro e w1 ⟨rfl, rfl⟩))
    go_ret
    exact ⟨rfl, 0, rfl⟩
set_option maxHeartbeats 400000 in
theorem iorder_any (b c : Nat) (hb : b < 18446744073709551616) (hc : c < 18446744073709551616) (w : World) : Calls Tryz.prog 232 #[.int .u64 (b : Int), .int .u64 (c : Int)] w fun e w' => e = .returned (.int .u64 ((ofW (ordW b c) : Nat) : Int)) ∧ ∃ n, w' = w.drewN n := by
  have HL := hide (order_any b c hb hc)
  have H1 := hide (of_any (ordW b c))
  have hr : -1 ≤ ordW b c ∧ ordW b c ≤ 1 := by unfold ordW cmpW; split; omega; split <;> omega
  generalize ordW b c = q at *
  generalize ofW q = o at *
  go_enter Tryz.func232, Tryz.ntmps232
  go_wp2_with (first | (go_at_call 265; refine (HL.out _).mono ?_; rintro e w1 ⟨rfl, rfl⟩) | (go_at_call 267; refine (H1.out _).mono ?_; rintro e w1 ⟨rfl, rfl⟩))
  go_ret
  exact ⟨rfl, 0, rfl⟩
theorem isame_any (b : Nat) (w : World) : Calls Tryz.prog 224 #[.int .u64 (b : Int)] w fun e w' => e = .returned (.int .u64 (b : Int)) ∧ ∃ n, w' = w.drewN n := by
  go_enter Tryz.func224, Tryz.ntmps224
  go_wp2
  go_ret
  exact ⟨rfl, 0, rfl⟩
theorem drew_of {P : Program} {f : FuncId} {l : Array Value} {w : World} {u : Value} (h : Calls P f l w fun e w' => e = .returned u ∧ w' = w) : Calls P f l w fun e w' => e = .returned u ∧ ∃ n, w' = w.drewN n :=
  h.mono (fun _ _ ⟨h1, h2⟩ => ⟨h1, 0, h2⟩)
theorem apost_of {w : World} {B fuel : Nat} {m : Mc} {v : Value} {f : FuncId} {l : Array Value} (h : Calls Tryz.prog f l w fun e w' => e = .returned noAct ∧ Mb w' B m v fuel ∧ w.grownBy w' (some B)) : Calls Tryz.prog f l w (APost w B v fuel (0, m, 0, ByteArray.empty)) :=
  h.mono (fun _ _ ⟨h1, h2, h3⟩ => ⟨fun _ => h1, fun h0 => absurd rfl h0, h2, h3⟩)
theorem mean_1 : MeanAt 1 .nilFunc .nilFunc (.func (.func 223) #[] #[]) := fun _ => by kernel_rfl
theorem mean_2 : MeanAt 2 (.func (.func 224) #[] #[]) .nilFunc .nilFunc := fun _ => by kernel_rfl
theorem mean_3 : MeanAt 3 .nilFunc (.func (.func 225) #[] #[]) .nilFunc := fun _ => by kernel_rfl
theorem mean_4 : MeanAt 4 .nilFunc (.func (.func 226) #[] #[]) .nilFunc := fun _ => by kernel_rfl
theorem mean_5 : MeanAt 5 .nilFunc (.func (.func 227) #[] #[]) .nilFunc := fun _ => by kernel_rfl
theorem mean_6 : MeanAt 6 .nilFunc (.func (.func 228) #[] #[]) .nilFunc := fun _ => by kernel_rfl
theorem mean_7 : MeanAt 7 .nilFunc (.func (.func 229) #[] #[]) .nilFunc := fun _ => by kernel_rfl
theorem mean_8 : MeanAt 8 .nilFunc (.func (.func 230) #[] #[]) .nilFunc := fun _ => by kernel_rfl
theorem mean_9 : MeanAt 9 .nilFunc (.func (.func 231) #[] #[]) .nilFunc := fun _ => by kernel_rfl
theorem mean_10 : MeanAt 10 .nilFunc (.func (.func 232) #[] #[]) .nilFunc := fun _ => by kernel_rfl
theorem mean_11 : MeanAt 11 (.func (.func 233) #[] #[]) .nilFunc .nilFunc := fun _ => by kernel_rfl
theorem mean_12 : MeanAt 12 (.func (.func 234) #[] #[]) .nilFunc .nilFunc := fun _ => by kernel_rfl
theorem mean_13 : MeanAt 13 (.func (.func 235) #[] #[]) .nilFunc .nilFunc := fun _ => by kernel_rfl
theorem mean_14 : MeanAt 14 .nilFunc .nilFunc (.func (.func 236) #[] #[]) := fun _ => by kernel_rfl
theorem mean_15 : MeanAt 15 .nilFunc .nilFunc (.func (.func 237) #[] #[]) := fun _ => by kernel_rfl
theorem mean_16 : MeanAt 16 .nilFunc .nilFunc (.func (.func 238) #[] #[]) := fun _ => by kernel_rfl
theorem mean_17 : MeanAt 17 .nilFunc .nilFunc (.func (.func 239) #[] #[]) := fun _ => by kernel_rfl
theorem mean_18 : MeanAt 18 .nilFunc .nilFunc (.func (.func 240) #[] #[]) := fun _ => by kernel_rfl
theorem mean_19 : MeanAt 19 .nilFunc .nilFunc (.func (.func 241) #[] #[]) := fun _ => by kernel_rfl
theorem mean_20 : MeanAt 20 .nilFunc .nilFunc (.func (.func 242) #[] #[]) := fun _ => by kernel_rfl
theorem mean_21 : MeanAt 21 .nilFunc .nilFunc (.func (.func 243) #[] #[]) := fun _ => by kernel_rfl
theorem mean_22 : MeanAt 22 .nilFunc .nilFunc (.func (.func 244) #[] #[]) := fun _ => by kernel_rfl
theorem mean_23 : MeanAt 23 .nilFunc .nilFunc (.func (.func 245) #[] #[]) := fun _ => by kernel_rfl
theorem mean_24 : MeanAt 24 .nilFunc .nilFunc (.func (.func 246) #[] #[]) := fun _ => by kernel_rfl
theorem ent_1 (l : Array Value) (w : World) : (callFunc 223 l).run Tryz.prog w = .ok (.enter 223 l) w := by kernel_rfl
theorem ent_2 (l : Array Value) (w : World) : (callFunc 224 l).run Tryz.prog w = .ok (.enter 224 l) w := by kernel_rfl
theorem ent_3 (l : Array Value) (w : World) : (callFunc 225 l).run Tryz.prog w = .ok (.enter 225 l) w := by kernel_rfl
theorem ent_4 (l : Array Value) (w : World) : (callFunc 226 l).run Tryz.prog w = .ok (.enter 226 l) w := by kernel_rfl
theorem ent_5 (l : Array Value) (w : World) : (callFunc 227 l).run Tryz.prog w = .ok (.enter 227 l) w := by kernel_rfl
theorem ent_6 (l : Array Value) (w : World) : (callFunc 228 l).run Tryz.prog w = .ok (.enter 228 l) w := by kernel_rfl
theorem ent_7 (l : Array Value) (w : World) : (callFunc 229 l).run Tryz.prog w = .ok (.enter 229 l) w := by kernel_rfl
theorem ent_8 (l : Array Value) (w : World) : (callFunc 230 l).run Tryz.prog w = .ok (.enter 230 l) w := by kernel_rfl
theorem ent_9 (l : Array Value) (w : World) : (callFunc 231 l).run Tryz.prog w = .ok (.enter 231 l) w := by kernel_rfl
theorem ent_10 (l : Array Value) (w : World) : (callFunc 232 l).run Tryz.prog w = .ok (.enter 232 l) w := by kernel_rfl
theorem ent_11 (l : Array Value) (w : World) : (callFunc 233 l).run Tryz.prog w = .ok (.enter 233 l) w := by kernel_rfl
theorem ent_12 (l : Array Value) (w : World) : (callFunc 234 l).run Tryz.prog w = .ok (.enter 234 l) w := by kernel_rfl
theorem ent_13 (l : Array Value) (w : World) : (callFunc 235 l).run Tryz.prog w = .ok (.enter 235 l) w := by kernel_rfl
theorem ent_14 (l : Array Value) (w : World) : (callFunc 236 l).run Tryz.prog w = .ok (.enter 236 l) w := by kernel_rfl
theorem ent_15 (l : Array Value) (w : World) : (callFunc 237 l).run Tryz.prog w = .ok (.enter 237 l) w := by kernel_rfl
theorem ent_16 (l : Array Value) (w : World) : (callFunc 238 l).run Tryz.prog w = .ok (.enter 238 l) w := by kernel_rfl
theorem ent_17 (l : Array Value) (w : World) : (callFunc 239 l).run Tryz.prog w = .ok (.enter 239 l) w := by kernel_rfl
theorem ent_18 (l : Array Value) (w : World) : (callFunc 240 l).run Tryz.prog w = .ok (.enter 240 l) w := by kernel_rfl
theorem ent_19 (l : Array Value) (w : World) : (callFunc 241 l).run Tryz.prog w = .ok (.enter 241 l) w := by kernel_rfl
theorem ent_20 (l : Array Value) (w : World) : (callFunc 242 l).run Tryz.prog w = .ok (.enter 242 l) w := by kernel_rfl
theorem ent_21 (l : Array Value) (w : World) : (callFunc 243 l).run Tryz.prog w = .ok (.enter 243 l) w := by kernel_rfl
theorem ent_22 (l : Array Value) (w : World) : (callFunc 244 l).run Tryz.prog w = .ok (.enter 244 l) w := by kernel_rfl
theorem ent_23 (l : Array Value) (w : World) : (callFunc 245 l).run Tryz.prog w = .ok (.enter 245 l) w := by kernel_rfl
theorem ent_24 (l : Array Value) (w : World) : (callFunc 246 l).run Tryz.prog w = .ok (.enter 246 l) w := by kernel_rfl
theorem reck_2 (b c : Nat) : Im.reck 2 b c = b := by
  unfold Im.reck
  rw [if_pos rfl]
theorem reck_3 (b c : Nat) : Im.reck 3 b c = Gn.addW b c := by
  unfold Im.reck
  rw [if_neg (by decide), if_pos rfl]
theorem reck_4 (b c : Nat) : Im.reck 4 b c = Gn.subW b c := by
  unfold Im.reck
  rw [if_neg (by decide), if_neg (by decide), if_pos rfl]
theorem reck_5 (b c : Nat) : Im.reck 5 b c = Gn.mulW b c := by
  unfold Im.reck
  rw [if_neg (by decide), if_neg (by decide), if_neg (by decide), if_pos rfl]
theorem reck_6 (b c : Nat) : Im.reck 6 b c = Gn.divW b c := by
  unfold Im.reck
  rw [if_neg (by decide), if_neg (by decide), if_neg (by decide), if_neg (by decide), if_pos rfl]
theorem reck_7 (b c : Nat) : Im.reck 7 b c = minW b c := by
  unfold Im.reck
  rw [if_neg (by decide), if_neg (by decide), if_neg (by decide), if_neg (by decide), if_neg (by decide), if_pos rfl]
theorem reck_8 (b c : Nat) : Im.reck 8 b c = maxW b c := by
  unfold Im.reck
  rw [if_neg (by decide), if_neg (by decide), if_neg (by decide), if_neg (by decide), if_neg (by decide), if_neg (by decide), if_pos rfl]
theorem reck_9 (b c : Nat) : Im.reck 9 b c = (if ltW b c then ofW 1 else ofW 0) := by
  unfold Im.reck
  rw [if_neg (by decide), if_neg (by decide), if_neg (by decide), if_neg (by decide), if_neg (by decide), if_neg (by decide), if_neg (by decide), if_pos rfl]
theorem reck_10 (b c : Nat) : Im.reck 10 b c = ofW (ordW b c) := by
  unfold Im.reck
  rw [if_neg (by decide), if_neg (by decide), if_neg (by decide), if_neg (by decide), if_neg (by decide), if_neg (by decide), if_neg (by decide), if_neg (by decide), if_pos rfl]
theorem reck_11 (b c : Nat) : Im.reck 11 b c = Gn.negW b := by
  unfold Im.reck
  rw [if_neg (by decide), if_neg (by decide), if_neg (by decide), if_neg (by decide), if_neg (by decide), if_neg (by decide), if_neg (by decide), if_neg (by decide), if_neg (by decide), if_pos rfl]
theorem reck_12 (b c : Nat) : Im.reck 12 b c = Gn.absW b := by
  unfold Im.reck
  rw [if_neg (by decide), if_neg (by decide), if_neg (by decide), if_neg (by decide), if_neg (by decide), if_neg (by decide), if_neg (by decide), if_neg (by decide), if_neg (by decide), if_neg (by decide), if_pos rfl]
theorem reck_13 (b c : Nat) : Im.reck 13 b c = floorW b := by
  unfold Im.reck
  rw [if_neg (by decide), if_neg (by decide), if_neg (by decide), if_neg (by decide), if_neg (by decide), if_neg (by decide), if_neg (by decide), if_neg (by decide), if_neg (by decide), if_neg (by decide), if_neg (by decide)]
theorem do_1 (a b c n k : Nat) (ha : a < 8) {w : World} {B fuel many : Nat} {m : Mc} {p : Option Addr} {cap : Nat} (h : Mb w B m (.slice p many cap) fuel)  :
    Calls Tryz.prog 155 #[.pointer (some ⟨B, 0, none⟩), .agg #[.int .i64 1, .int .i64 (a : Int), .int .i64 (b : Int), .int .i64 (c : Int), .int .i64 (n : Int), .int .u64 (k : Int)]] w (APost w B (.slice p many cap) fuel (Im.doM m ⟨1, (a : Int), (b : Int), (c : Int), (n : Int), k⟩ many)) := by
  exact do_does 1 _ mean_1 a b c n k _ h ent_1 (fun w1 h1 g1 => i_set_any 1 a b c n k ha h1)
theorem do_2 (a b c n k : Nat) (ha : a < 8) (hb : b < 8) {w : World} {B fuel many : Nat} {m : Mc} {p : Option Addr} {cap : Nat} (h : Mb w B m (.slice p many cap) fuel)  :
    Calls Tryz.prog 155 #[.pointer (some ⟨B, 0, none⟩), .agg #[.int .i64 2, .int .i64 (a : Int), .int .i64 (b : Int), .int .i64 (c : Int), .int .i64 (n : Int), .int .u64 (k : Int)]] w (APost w B (.slice p many cap) fuel (Im.doM m ⟨2, (a : Int), (b : Int), (c : Int), (n : Int), k⟩ many)) := by
  rw [show Im.doM m ⟨2, (a : Int), (b : Int), (c : Int), (n : Int), k⟩ many = (0, { m with R := m.R.set a (Im.reck 2 m.R[b]! m.R[c]!) }, 0, ByteArray.empty) from rfl, reck_2]
  exact apost_of (do_two 2 _ mean_2 a b c ha hb n k _ _ h rfl ent_2 (fun w1 => isame_any _ w1))
theorem do_3 (a b c n k : Nat) (ha : a < 8) (hb : b < 8) (hc : c < 8) {w : World} {B fuel many : Nat} {m : Mc} {p : Option Addr} {cap : Nat} (h : Mb w B m (.slice p many cap) fuel)  :
    Calls Tryz.prog 155 #[.pointer (some ⟨B, 0, none⟩), .agg #[.int .i64 3, .int .i64 (a : Int), .int .i64 (b : Int), .int .i64 (c : Int), .int .i64 (n : Int), .int .u64 (k : Int)]] w (APost w B (.slice p many cap) fuel (Im.doM m ⟨3, (a : Int), (b : Int), (c : Int), (n : Int), k⟩ many)) := by
  rw [show Im.doM m ⟨3, (a : Int), (b : Int), (c : Int), (n : Int), k⟩ many = (0, { m with R := m.R.set a (Im.reck 3 m.R[b]! m.R[c]!) }, 0, ByteArray.empty) from rfl, reck_3]
  exact apost_of (do_three 3 _ mean_3 a b c ha hb hc n k _ _ _ h rfl rfl ent_3 (fun w1 => add_any _ _ w1))
theorem do_4 (a b c n k : Nat) (ha : a < 8) (hb : b < 8) (hc : c < 8) {w : World} {B fuel many : Nat} {m : Mc} {p : Option Addr} {cap : Nat} (h : Mb w B m (.slice p many cap) fuel) (hR : ∀ i : Nat, m.R[i]! < 18446744073709551616) :
    Calls Tryz.prog 155 #[.pointer (some ⟨B, 0, none⟩), .agg #[.int .i64 4, .int .i64 (a : Int), .int .i64 (b : Int), .int .i64 (c : Int), .int .i64 (n : Int), .int .u64 (k : Int)]] w (APost w B (.slice p many cap) fuel (Im.doM m ⟨4, (a : Int), (b : Int), (c : Int), (n : Int), k⟩ many)) := by
  rw [show Im.doM m ⟨4, (a : Int), (b : Int), (c : Int), (n : Int), k⟩ many = (0, { m with R := m.R.set a (Im.reck 4 m.R[b]! m.R[c]!) }, 0, ByteArray.empty) from rfl, reck_4]
  exact apost_of (do_three 4 _ mean_4 a b c ha hb hc n k _ _ _ h rfl rfl ent_4 (fun w1 => sub_any _ _ (hR c) w1))
theorem do_5 (a b c n k : Nat) (ha : a < 8) (hb : b < 8) (hc : c < 8) {w : World} {B fuel many : Nat} {m : Mc} {p : Option Addr} {cap : Nat} (h : Mb w B m (.slice p many cap) fuel)  :
    Calls Tryz.prog 155 #[.pointer (some ⟨B, 0, none⟩), .agg #[.int .i64 5, .int .i64 (a : Int), .int .i64 (b : Int), .int .i64 (c : Int), .int .i64 (n : Int), .int .u64 (k : Int)]] w (APost w B (.slice p many cap) fuel (Im.doM m ⟨5, (a : Int), (b : Int), (c : Int), (n : Int), k⟩ many)) := by
  rw [show Im.doM m ⟨5, (a : Int), (b : Int), (c : Int), (n : Int), k⟩ many = (0, { m with R := m.R.set a (Im.reck 5 m.R[b]! m.R[c]!) }, 0, ByteArray.empty) from rfl, reck_5]
  exact apost_of (do_three 5 _ mean_5 a b c ha hb hc n k _ _ _ h rfl rfl ent_5 (fun w1 => mul_any _ _ w1))
theorem do_6 (a b c n k : Nat) (ha : a < 8) (hb : b < 8) (hc : c < 8) {w : World} {B fuel many : Nat} {m : Mc} {p : Option Addr} {cap : Nat} (h : Mb w B m (.slice p many cap) fuel)  :
    Calls Tryz.prog 155 #[.pointer (some ⟨B, 0, none⟩), .agg #[.int .i64 6, .int .i64 (a : Int), .int .i64 (b : Int), .int .i64 (c : Int), .int .i64 (n : Int), .int .u64 (k : Int)]] w (APost w B (.slice p many cap) fuel (Im.doM m ⟨6, (a : Int), (b : Int), (c : Int), (n : Int), k⟩ many)) := by
  rw [show Im.doM m ⟨6, (a : Int), (b : Int), (c : Int), (n : Int), k⟩ many = (0, { m with R := m.R.set a (Im.reck 6 m.R[b]! m.R[c]!) }, 0, ByteArray.empty) from rfl, reck_6]
  exact apost_of (do_three 6 _ mean_6 a b c ha hb hc n k _ _ _ h rfl rfl ent_6 (fun w1 => div_any _ _ w1))
theorem do_7 (a b c n k : Nat) (ha : a < 8) (hb : b < 8) (hc : c < 8) {w : World} {B fuel many : Nat} {m : Mc} {p : Option Addr} {cap : Nat} (h : Mb w B m (.slice p many cap) fuel) (hR : ∀ i : Nat, m.R[i]! < 18446744073709551616) :
    Calls Tryz.prog 155 #[.pointer (some ⟨B, 0, none⟩), .agg #[.int .i64 7, .int .i64 (a : Int), .int .i64 (b : Int), .int .i64 (c : Int), .int .i64 (n : Int), .int .u64 (k : Int)]] w (APost w B (.slice p many cap) fuel (Im.doM m ⟨7, (a : Int), (b : Int), (c : Int), (n : Int), k⟩ many)) := by
  rw [show Im.doM m ⟨7, (a : Int), (b : Int), (c : Int), (n : Int), k⟩ many = (0, { m with R := m.R.set a (Im.reck 7 m.R[b]! m.R[c]!) }, 0, ByteArray.empty) from rfl, reck_7]
  exact apost_of (do_three 7 _ mean_7 a b c ha hb hc n k _ _ _ h rfl rfl ent_7 (fun w1 => drew_of (min_any _ _ (hR b) (hR c) w1)))
theorem do_8 (a b c n k : Nat) (ha : a < 8) (hb : b < 8) (hc : c < 8) {w : World} {B fuel many : Nat} {m : Mc} {p : Option Addr} {cap : Nat} (h : Mb w B m (.slice p many cap) fuel) (hR : ∀ i : Nat, m.R[i]! < 18446744073709551616) :
    Calls Tryz.prog 155 #[.pointer (some ⟨B, 0, none⟩), .agg #[.int .i64 8, .int .i64 (a : Int), .int .i64 (b : Int), .int .i64 (c : Int), .int .i64 (n : Int), .int .u64 (k : Int)]] w (APost w B (.slice p many cap) fuel (Im.doM m ⟨8, (a : Int), (b : Int), (c : Int), (n : Int), k⟩ many)) := by
  rw [show Im.doM m ⟨8, (a : Int), (b : Int), (c : Int), (n : Int), k⟩ many = (0, { m with R := m.R.set a (Im.reck 8 m.R[b]! m.R[c]!) }, 0, ByteArray.empty) from rfl, reck_8]
  exact apost_of (do_three 8 _ mean_8 a b c ha hb hc n k _ _ _ h rfl rfl ent_8 (fun w1 => drew_of (max_any _ _ (hR b) (hR c) w1)))
theorem do_9 (a b c n k : Nat) (ha : a < 8) (hb : b < 8) (hc : c < 8) {w : World} {B fuel many : Nat} {m : Mc} {p : Option Addr} {cap : Nat} (h : Mb w B m (.slice p many cap) fuel)  :
    Calls Tryz.prog 155 #[.pointer (some ⟨B, 0, none⟩), .agg #[.int .i64 9, .int .i64 (a : Int), .int .i64 (b : Int), .int .i64 (c : Int), .int .i64 (n : Int), .int .u64 (k : Int)]] w (APost w B (.slice p many cap) fuel (Im.doM m ⟨9, (a : Int), (b : Int), (c : Int), (n : Int), k⟩ many)) := by
  rw [show Im.doM m ⟨9, (a : Int), (b : Int), (c : Int), (n : Int), k⟩ many = (0, { m with R := m.R.set a (Im.reck 9 m.R[b]! m.R[c]!) }, 0, ByteArray.empty) from rfl, reck_9]
  exact apost_of (do_three 9 _ mean_9 a b c ha hb hc n k _ _ _ h rfl rfl ent_9 (fun w1 => iless_any _ _ w1))
theorem do_10 (a b c n k : Nat) (ha : a < 8) (hb : b < 8) (hc : c < 8) {w : World} {B fuel many : Nat} {m : Mc} {p : Option Addr} {cap : Nat} (h : Mb w B m (.slice p many cap) fuel) (hR : ∀ i : Nat, m.R[i]! < 18446744073709551616) :
    Calls Tryz.prog 155 #[.pointer (some ⟨B, 0, none⟩), .agg #[.int .i64 10, .int .i64 (a : Int), .int .i64 (b : Int), .int .i64 (c : Int), .int .i64 (n : Int), .int .u64 (k : Int)]] w (APost w B (.slice p many cap) fuel (Im.doM m ⟨10, (a : Int), (b : Int), (c : Int), (n : Int), k⟩ many)) := by
  rw [show Im.doM m ⟨10, (a : Int), (b : Int), (c : Int), (n : Int), k⟩ many = (0, { m with R := m.R.set a (Im.reck 10 m.R[b]! m.R[c]!) }, 0, ByteArray.empty) from rfl, reck_10]
  exact apost_of (do_three 10 _ mean_10 a b c ha hb hc n k _ _ _ h rfl rfl ent_10 (fun w1 => iorder_any _ _ (hR b) (hR c) w1))
theorem do_11 (a b c n k : Nat) (ha : a < 8) (hb : b < 8) {w : World} {B fuel many : Nat} {m : Mc} {p : Option Addr} {cap : Nat} (h : Mb w B m (.slice p many cap) fuel) (hR : ∀ i : Nat, m.R[i]! < 18446744073709551616) :
    Calls Tryz.prog 155 #[.pointer (some ⟨B, 0, none⟩), .agg #[.int .i64 11, .int .i64 (a : Int), .int .i64 (b : Int), .int .i64 (c : Int), .int .i64 (n : Int), .int .u64 (k : Int)]] w (APost w B (.slice p many cap) fuel (Im.doM m ⟨11, (a : Int), (b : Int), (c : Int), (n : Int), k⟩ many)) := by
  rw [show Im.doM m ⟨11, (a : Int), (b : Int), (c : Int), (n : Int), k⟩ many = (0, { m with R := m.R.set a (Im.reck 11 m.R[b]! m.R[c]!) }, 0, ByteArray.empty) from rfl, reck_11]
  exact apost_of (do_two 11 _ mean_11 a b c ha hb n k _ _ h rfl ent_11 (fun w1 => drew_of (neg_any _ (hR b) w1)))
theorem do_12 (a b c n k : Nat) (ha : a < 8) (hb : b < 8) {w : World} {B fuel many : Nat} {m : Mc} {p : Option Addr} {cap : Nat} (h : Mb w B m (.slice p many cap) fuel) (hR : ∀ i : Nat, m.R[i]! < 18446744073709551616) :
    Calls Tryz.prog 155 #[.pointer (some ⟨B, 0, none⟩), .agg #[.int .i64 12, .int .i64 (a : Int), .int .i64 (b : Int), .int .i64 (c : Int), .int .i64 (n : Int), .int .u64 (k : Int)]] w (APost w B (.slice p many cap) fuel (Im.doM m ⟨12, (a : Int), (b : Int), (c : Int), (n : Int), k⟩ many)) := by
  rw [show Im.doM m ⟨12, (a : Int), (b : Int), (c : Int), (n : Int), k⟩ many = (0, { m with R := m.R.set a (Im.reck 12 m.R[b]! m.R[c]!) }, 0, ByteArray.empty) from rfl, reck_12]
  exact apost_of (do_two 12 _ mean_12 a b c ha hb n k _ _ h rfl ent_12 (fun w1 => drew_of (abs_any _ (hR b) w1)))
theorem do_13 (a b c n k : Nat) (ha : a < 8) (hb : b < 8) {w : World} {B fuel many : Nat} {m : Mc} {p : Option Addr} {cap : Nat} (h : Mb w B m (.slice p many cap) fuel) (hR : ∀ i : Nat, m.R[i]! < 18446744073709551616) :
    Calls Tryz.prog 155 #[.pointer (some ⟨B, 0, none⟩), .agg #[.int .i64 13, .int .i64 (a : Int), .int .i64 (b : Int), .int .i64 (c : Int), .int .i64 (n : Int), .int .u64 (k : Int)]] w (APost w B (.slice p many cap) fuel (Im.doM m ⟨13, (a : Int), (b : Int), (c : Int), (n : Int), k⟩ many)) := by
  rw [show Im.doM m ⟨13, (a : Int), (b : Int), (c : Int), (n : Int), k⟩ many = (0, { m with R := m.R.set a (Im.reck 13 m.R[b]! m.R[c]!) }, 0, ByteArray.empty) from rfl, reck_13]
  exact apost_of (do_two 13 _ mean_13 a b c ha hb n k _ _ h rfl ent_13 (fun w1 => floor_any _ (hR b) w1))
theorem do_14 (a b c n k : Nat)  {w : World} {B fuel many : Nat} {m : Mc} {p : Option Addr} {cap : Nat} (h : Mb w B m (.slice p many cap) fuel)  :
    Calls Tryz.prog 155 #[.pointer (some ⟨B, 0, none⟩), .agg #[.int .i64 14, .int .i64 (a : Int), .int .i64 (b : Int), .int .i64 (c : Int), .int .i64 (n : Int), .int .u64 (k : Int)]] w (APost w B (.slice p many cap) fuel (Im.doM m ⟨14, (a : Int), (b : Int), (c : Int), (n : Int), k⟩ many)) := by
  exact do_does 14 _ mean_14 a b c n k _ h ent_14 (fun w1 h1 g1 => jump_any 14 a b c n k h1)
theorem do_15 (a b c n k : Nat) (ha : a < 8) {w : World} {B fuel many : Nat} {m : Mc} {p : Option Addr} {cap : Nat} (h : Mb w B m (.slice p many cap) fuel) (hR : ∀ i : Nat, m.R[i]! < 18446744073709551616) :
    Calls Tryz.prog 155 #[.pointer (some ⟨B, 0, none⟩), .agg #[.int .i64 15, .int .i64 (a : Int), .int .i64 (b : Int), .int .i64 (c : Int), .int .i64 (n : Int), .int .u64 (k : Int)]] w (APost w B (.slice p many cap) fuel (Im.doM m ⟨15, (a : Int), (b : Int), (c : Int), (n : Int), k⟩ many)) := by
  exact do_does 15 _ mean_15 a b c n k _ h ent_15 (fun w1 h1 g1 => jumpIf_any 15 a b c n k ha _ (hR a) h1 rfl)
theorem do_16 (a b c n k : Nat) (ha : a < 8) {w : World} {B fuel many : Nat} {m : Mc} {p : Option Addr} {cap : Nat} (h : Mb w B m (.slice p many cap) fuel) (hR : ∀ i : Nat, m.R[i]! < 18446744073709551616) :
    Calls Tryz.prog 155 #[.pointer (some ⟨B, 0, none⟩), .agg #[.int .i64 16, .int .i64 (a : Int), .int .i64 (b : Int), .int .i64 (c : Int), .int .i64 (n : Int), .int .u64 (k : Int)]] w (APost w B (.slice p many cap) fuel (Im.doM m ⟨16, (a : Int), (b : Int), (c : Int), (n : Int), k⟩ many)) := by
  rw [show Im.doM m ⟨16, (a : Int), (b : Int), (c : Int), (n : Int), k⟩ many = if Gn.intOk m.R[a]! = true ∧ 0 ≤ Gn.intV m.R[a]! ∧ Gn.intV m.R[a]! ≤ (many : Int) then (0, { m with pl := (Gn.intV m.R[a]!).toNat }, 0, ByteArray.empty) else (4, m, 0, ByteArray.empty) from rfl]
  by_cases hx : Gn.intOk m.R[a]! = true ∧ 0 ≤ Gn.intV m.R[a]! ∧ Gn.intV m.R[a]! ≤ (many : Int)
  · rw [if_pos hx]
    exact do_does 16 _ mean_16 a b c n k _ h ent_16 (fun w1 h1 g1 => jumpTo_ok 16 a b c n k ha _ (hR a) many hx.1 hx.2.1 hx.2.2 h1 rfl p cap rfl)
  · rw [if_neg hx]
    by_cases hy : Gn.intOk m.R[a]! = true
    · exact do_does 16 _ mean_16 a b c n k _ h ent_16 (fun w1 h1 g1 => jumpTo_no2 16 a b c n k ha _ (hR a) many hy (fun q => hx ⟨hy, q⟩) h1 rfl p cap rfl)
    · exact do_does 16 _ mean_16 a b c n k _ h ent_16 (fun w1 h1 g1 => jumpTo_no1 16 a b c n k ha _ (hR a) many (by simpa using hy) h1 rfl p cap rfl)
theorem do_17 (a b c n k : Nat)  {w : World} {B fuel many : Nat} {m : Mc} {p : Option Addr} {cap : Nat} (h : Mb w B m (.slice p many cap) fuel) (hpn : m.pn ≤ 8) :
    Calls Tryz.prog 155 #[.pointer (some ⟨B, 0, none⟩), .agg #[.int .i64 17, .int .i64 (a : Int), .int .i64 (b : Int), .int .i64 (c : Int), .int .i64 (n : Int), .int .u64 (k : Int)]] w (APost w B (.slice p many cap) fuel (Im.doM m ⟨17, (a : Int), (b : Int), (c : Int), (n : Int), k⟩ many)) := by
  rw [show Im.doM m ⟨17, (a : Int), (b : Int), (c : Int), (n : Int), k⟩ many = if m.pn = 8 then (2, m, 0, ByteArray.empty) else (0, { m with P := m.P.set m.pn m.pl, pn := m.pn + 1, pl := n }, 0, ByteArray.empty) from rfl]
  by_cases hx : m.pn = 8
  · rw [if_pos hx]
    exact do_does 17 _ mean_17 a b c n k _ h ent_17 (fun w1 h1 g1 => call_no 17 a b c n k h1 hx)
  · rw [if_neg hx]
    exact do_does 17 _ mean_17 a b c n k _ h ent_17 (fun w1 h1 g1 => call_ok 17 a b c n k h1 (by omega))
theorem do_18 (a b c n k : Nat)  {w : World} {B fuel many : Nat} {m : Mc} {p : Option Addr} {cap : Nat} (h : Mb w B m (.slice p many cap) fuel) (hpn : m.pn ≤ 8) :
    Calls Tryz.prog 155 #[.pointer (some ⟨B, 0, none⟩), .agg #[.int .i64 18, .int .i64 (a : Int), .int .i64 (b : Int), .int .i64 (c : Int), .int .i64 (n : Int), .int .u64 (k : Int)]] w (APost w B (.slice p many cap) fuel (Im.doM m ⟨18, (a : Int), (b : Int), (c : Int), (n : Int), k⟩ many)) := by
  rw [show Im.doM m ⟨18, (a : Int), (b : Int), (c : Int), (n : Int), k⟩ many = if m.pn = 0 then (3, m, 0, ByteArray.empty) else (0, { m with pn := m.pn - 1, pl := m.P[m.pn - 1]! }, 0, ByteArray.empty) from rfl]
  by_cases hx : m.pn = 0
  · rw [if_pos hx]
    exact do_does 18 _ mean_18 a b c n k _ h ent_18 (fun w1 h1 g1 => ret_no 18 a b c n k h1 hx)
  · rw [if_neg hx]
    exact do_does 18 _ mean_18 a b c n k _ h ent_18 (fun w1 h1 g1 => ret_ok 18 a b c n k h1 hpn hx)
theorem do_19 (a b c n k : Nat) (ha : a < 8) {w : World} {B fuel many : Nat} {m : Mc} {p : Option Addr} {cap : Nat} (h : Mb w B m (.slice p many cap) fuel) (hsn : m.sn ≤ 8) :
    Calls Tryz.prog 155 #[.pointer (some ⟨B, 0, none⟩), .agg #[.int .i64 19, .int .i64 (a : Int), .int .i64 (b : Int), .int .i64 (c : Int), .int .i64 (n : Int), .int .u64 (k : Int)]] w (APost w B (.slice p many cap) fuel (Im.doM m ⟨19, (a : Int), (b : Int), (c : Int), (n : Int), k⟩ many)) := by
  rw [show Im.doM m ⟨19, (a : Int), (b : Int), (c : Int), (n : Int), k⟩ many = if m.sn = 8 then (2, m, 0, ByteArray.empty) else (0, { m with S := m.S.set m.sn m.R[a]!, sn := m.sn + 1 }, 0, ByteArray.empty) from rfl]
  by_cases hx : m.sn = 8
  · rw [if_pos hx]
    exact do_does 19 _ mean_19 a b c n k _ h ent_19 (fun w1 h1 g1 => push_no 19 a b c n k ha _ h1 rfl hx)
  · rw [if_neg hx]
    exact do_does 19 _ mean_19 a b c n k _ h ent_19 (fun w1 h1 g1 => push_ok 19 a b c n k ha _ h1 rfl (by omega))
theorem do_20 (a b c n k : Nat) (ha : a < 8) {w : World} {B fuel many : Nat} {m : Mc} {p : Option Addr} {cap : Nat} (h : Mb w B m (.slice p many cap) fuel) (hsn : m.sn ≤ 8) :
    Calls Tryz.prog 155 #[.pointer (some ⟨B, 0, none⟩), .agg #[.int .i64 20, .int .i64 (a : Int), .int .i64 (b : Int), .int .i64 (c : Int), .int .i64 (n : Int), .int .u64 (k : Int)]] w (APost w B (.slice p many cap) fuel (Im.doM m ⟨20, (a : Int), (b : Int), (c : Int), (n : Int), k⟩ many)) := by
  rw [show Im.doM m ⟨20, (a : Int), (b : Int), (c : Int), (n : Int), k⟩ many = if m.sn = 0 then (3, m, 0, ByteArray.empty) else (0, { m with sn := m.sn - 1, R := m.R.set a m.S[m.sn - 1]! }, 0, ByteArray.empty) from rfl]
  by_cases hx : m.sn = 0
  · rw [if_pos hx]
    exact do_does 20 _ mean_20 a b c n k _ h ent_20 (fun w1 h1 g1 => pop_no 20 a b c n k h1 hx)
  · rw [if_neg hx]
    exact do_does 20 _ mean_20 a b c n k _ h ent_20 (fun w1 h1 g1 => pop_ok 20 a b c n k ha _ h1 rfl hsn hx)
theorem do_21 (a b c n k : Nat) (ha : a < 8) {w : World} {B fuel many : Nat} {m : Mc} {p : Option Addr} {cap : Nat} (h : Mb w B m (.slice p many cap) fuel) (hE : Env w B) (hR : ∀ i : Nat, m.R[i]! < 18446744073709551616) (hch : m.ch ≤ 32) :
    Calls Tryz.prog 155 #[.pointer (some ⟨B, 0, none⟩), .agg #[.int .i64 21, .int .i64 (a : Int), .int .i64 (b : Int), .int .i64 (c : Int), .int .i64 (n : Int), .int .u64 (k : Int)]] w (APost w B (.slice p many cap) fuel (Im.doM m ⟨21, (a : Int), (b : Int), (c : Int), (n : Int), k⟩ many)) := by
  rw [show Im.doM m ⟨21, (a : Int), (b : Int), (c : Int), (n : Int), k⟩ many = if m.ch = 32 then (5, m, 0, ByteArray.empty) else (0, { m with ch := m.ch + 1 }, 1, textB m.R[a]!) from rfl]
  by_cases hx : m.ch = 32
  · rw [if_pos hx]
    exact do_does 21 _ mean_21 a b c n k _ h ent_21 (fun w1 h1 g1 => emit_no 21 a b c n k h1 hx)
  · rw [if_neg hx]
    exact do_does 21 _ mean_21 a b c n k _ h ent_21 (fun w1 h1 g1 => emit_ok 21 a b c n k ha _ (hR a) h1 rfl (by omega) (hE.grown g1))
theorem do_22 (a b c n k : Nat) (ha : a < 8) {w : World} {B fuel many : Nat} {m : Mc} {p : Option Addr} {cap : Nat} (h : Mb w B m (.slice p many cap) fuel) (hE : Env w B) (hR : ∀ i : Nat, m.R[i]! < 18446744073709551616) (hpc : m.pc ≤ 16) :
    Calls Tryz.prog 155 #[.pointer (some ⟨B, 0, none⟩), .agg #[.int .i64 22, .int .i64 (a : Int), .int .i64 (b : Int), .int .i64 (c : Int), .int .i64 (n : Int), .int .u64 (k : Int)]] w (APost w B (.slice p many cap) fuel (Im.doM m ⟨22, (a : Int), (b : Int), (c : Int), (n : Int), k⟩ many)) := by
  rw [show Im.doM m ⟨22, (a : Int), (b : Int), (c : Int), (n : Int), k⟩ many = if m.pc = 16 then (6, m, 0, ByteArray.empty) else (0, { m with pc := m.pc + 1 }, 2, textB m.R[a]!) from rfl]
  by_cases hx : m.pc = 16
  · rw [if_pos hx]
    exact do_does 22 _ mean_22 a b c n k _ h ent_22 (fun w1 h1 g1 => write_no 22 a b c n k h1 hx)
  · rw [if_neg hx]
    exact do_does 22 _ mean_22 a b c n k _ h ent_22 (fun w1 h1 g1 => write_ok 22 a b c n k ha _ (hR a) h1 rfl (by omega) (hE.grown g1))
theorem do_23 (a b c n k : Nat)  {w : World} {B fuel many : Nat} {m : Mc} {p : Option Addr} {cap : Nat} (h : Mb w B m (.slice p many cap) fuel)  :
    Calls Tryz.prog 155 #[.pointer (some ⟨B, 0, none⟩), .agg #[.int .i64 23, .int .i64 (a : Int), .int .i64 (b : Int), .int .i64 (c : Int), .int .i64 (n : Int), .int .u64 (k : Int)]] w (APost w B (.slice p many cap) fuel (Im.doM m ⟨23, (a : Int), (b : Int), (c : Int), (n : Int), k⟩ many)) := by
  exact do_does 23 _ mean_23 a b c n k _ h ent_23 (fun w1 h1 g1 => fail_any 23 a b c n k h1)
theorem do_24 (a b c n k : Nat)  {w : World} {B fuel many : Nat} {m : Mc} {p : Option Addr} {cap : Nat} (h : Mb w B m (.slice p many cap) fuel)  :
    Calls Tryz.prog 155 #[.pointer (some ⟨B, 0, none⟩), .agg #[.int .i64 24, .int .i64 (a : Int), .int .i64 (b : Int), .int .i64 (c : Int), .int .i64 (n : Int), .int .u64 (k : Int)]] w (APost w B (.slice p many cap) fuel (Im.doM m ⟨24, (a : Int), (b : Int), (c : Int), (n : Int), k⟩ many)) := by
  exact do_does 24 _ mean_24 a b c n k _ h ent_24 (fun w1 h1 g1 => halt_any 24 a b c n k h1)
theorem do_any {w : World} {B fuel many fu : Nat} {m : Mc} {p : Option Addr} {cap : Nat} {x : In} (h : Mb w B m (.slice p many cap) fuel) (hE : Env w B) (hf : m.Fit many fu) (g : x.Good many) :
    Calls Tryz.prog 155 #[.pointer (some ⟨B, 0, none⟩), .agg #[.int .i64 x.op, .int .i64 x.a, .int .i64 x.b, .int .i64 x.c, .int .i64 x.n, .int .u64 (x.k : Int)]] w (APost w B (.slice p many cap) fuel (Im.doM m x many)) := by
  obtain ⟨op, a, b, c, n, k⟩ := x
  obtain ⟨g1, g2, ha, ha', hb, hb', hc, hc', hn, _, _⟩ := g
  dsimp only at *
  obtain ⟨a, rfl⟩ := Int.eq_ofNat_of_zero_le ha
  obtain ⟨b, rfl⟩ := Int.eq_ofNat_of_zero_le hb
  obtain ⟨c, rfl⟩ := Int.eq_ofNat_of_zero_le hc
  obtain ⟨n, rfl⟩ := Int.eq_ofNat_of_zero_le hn
  have ha : a < 8 := by omega
  have hb : b < 8 := by omega
  have hc : c < 8 := by omega
  have hR : ∀ i : Nat, m.R[i]! < 18446744073709551616 := fun i => (get_wd hf.wR i).1
  have hsn := hf.sn
  have hpn := hf.pn
  have hch := hf.ch
  have hpc := hf.pc
  have hop : op = 1 ∨ op = 2 ∨ op = 3 ∨ op = 4 ∨ op = 5 ∨ op = 6 ∨ op = 7 ∨ op = 8 ∨ op = 9 ∨ op = 10 ∨ op = 11 ∨ op = 12 ∨ op = 13 ∨ op = 14 ∨ op = 15 ∨ op = 16 ∨ op = 17 ∨ op = 18 ∨ op = 19 ∨ op = 20 ∨ op = 21 ∨ op = 22 ∨ op = 23 ∨ op = 24 := by omega
  rcases hop with rfl | rfl | rfl | rfl | rfl | rfl | rfl | rfl | rfl | rfl | rfl | rfl | rfl | rfl | rfl | rfl | rfl | rfl | rfl | rfl | rfl | rfl | rfl | rfl
  · exact do_1 a b c n k ha h 
  · exact do_2 a b c n k ha hb h 
  · exact do_3 a b c n k ha hb hc h 
  · exact do_4 a b c n k ha hb hc h hR
  · exact do_5 a b c n k ha hb hc h 
  · exact do_6 a b c n k ha hb hc h 
  · exact do_7 a b c n k ha hb hc h hR
  · exact do_8 a b c n k ha hb hc h hR
  · exact do_9 a b c n k ha hb hc h 
  · exact do_10 a b c n k ha hb hc h hR
  · exact do_11 a b c n k ha hb h hR
  · exact do_12 a b c n k ha hb h hR
  · exact do_13 a b c n k ha hb h hR
  · exact do_14 a b c n k  h 
  · exact do_15 a b c n k ha h hR
  · exact do_16 a b c n k ha h hR
  · exact do_17 a b c n k  h hpn
  · exact do_18 a b c n k  h hpn
  · exact do_19 a b c n k ha h hsn
  · exact do_20 a b c n k ha h hsn
  · exact do_21 a b c n k ha h hE hR hch
  · exact do_22 a b c n k ha h hE hR hpc
  · exact do_23 a b c n k  h 
  · exact do_24 a b c n k  h 
end Go.Proofs.YtkfnedhllfdghaaGreatDoor
end

section
namespace Go.Proofs.YtkfnedhllfdghaaGreatDoor
set_option maxRecDepth 20000
open Go.RowKit Go.Shelf

theorem grown_none (w : World) (q : Nat) (r : Option Nat) : w.grownBy (w.drewN q) r := ⟨rfl, rfl, rfl, Nat.le_refl _, fun _ _ _ => rfl⟩
theorem grown_drewN {w w' : World} {r : Option Nat} (h : w.grownBy w' r) (q : Nat) : w.grownBy (w'.drewN q) r := ⟨h.os, h.tape, h.output, h.size, h.block⟩
theorem Mb.drewN {w : World} {B fuel : Nat} {m : Mc} {v : Value} (h : Mb w B m v fuel) (q : Nat) : Mb (w.drewN q) B m v fuel := ⟨h.blk, h.l8⟩
theorem Mb.drawn {w w' : World} {B fuel : Nat} {m : Mc} {v : Value} (h : Mb w B m v fuel) (e : w'.heap = w.heap) : Mb w' B m v fuel := ⟨by rw [e]; exact h.blk, h.l8⟩
set_option maxHeartbeats 1000000 in
theorem settle_any {w : World} {B fuel : Nat} {m : Mc} {p : Option Addr} {many cap : Nat} (h : Mb w B m (.slice p many cap) fuel) :
    Calls Tryz.prog 156 #[.pointer (some ⟨B, 0, none⟩)] w fun e w' => e = .returned (.tuple #[]) ∧ Mb w' B (Im.settle m many fuel) (.slice p many cap) fuel ∧ w.grownBy w' (some B) := by
  have c0 : w.cell? ⟨B, 0, none⟩ = some (.slice p many cap) := h.cell rfl
  have c1 : w.cell? ⟨B, 1, none⟩ = some (.int .i64 (fuel : Int)) := h.cell rfl
  have c2 := h.cell (h.l8.g_pl (.slice p many cap) fuel)
  have c29 := h.cell (h.l8.g_dn (.slice p many cap) fuel)
  have c32 := h.cell (h.l8.g_ov (.slice p many cap) fuel)
  have c33 := h.cell (h.l8.g_en (.slice p many cap) fuel)
  have z := h.z
  unfold Im.settle
  by_cases h1 : m.ov = true
  · rw [if_pos h1]
    rw [h1] at c32
    have HB := hide h
    go_enter Tryz.func156, Tryz.ntmps156
    go_wp2_with fail
    exact ⟨rfl, _, results_none rfl _ _ _, rfl, HB.out, grown_none w 0 _⟩
  rw [if_neg h1]
  rw [Bool.not_eq_true] at h1
  rw [h1] at c32
  by_cases h2 : m.pl = many
  · rw [if_pos h2]
    rw [h2] at c2
    have HS := hide (h.set (h.l8.s_ov _ fuel true) (h.l8.of rfl rfl rfl))
    go_enter Tryz.func156, Tryz.ntmps156
    go_wp2_with fail
    go_quiet (fail)
    go_wp2_with fail
    exact ⟨rfl, _, results_none rfl _ _ _, rfl, HS.out.drawn rfl, grown_drewN (i_grown_set w B 32 (.bool true)) _⟩
  rw [if_neg h2]
  have b2 : ((m.pl : Int) == (many : Int)) = false := by rw [beq_eq_false_iff_ne]; omega
  by_cases h3 : m.dn = fuel
  · rw [if_pos h3]
    rw [h3] at c29
    have H1 := h.set (h.l8.s_ov _ fuel true) (h.l8.of rfl rfl rfl)
    have k33 := H1.cell (H1.l8.g_en _ fuel)
    have kz := H1.z
    have HS := hide (H1.set (H1.l8.s_en _ fuel 1) (H1.l8.of rfl rfl rfl))
    clear H1
    generalize m.pl = pl at *
    go_enter Tryz.func156, Tryz.ntmps156
    go_wp2_with fail
    go_quiet (fail)
    go_wp2_with fail
    go_quiet (fail)
    go_wp2_with fail
    exact ⟨rfl, _, results_none rfl _ _ _, rfl, HS.out.drawn rfl, grown_drewN (i_grown_trans (i_grown_set w B 32 (.bool true)) (i_grown_set _ B 33 _)) _⟩
  · rw [if_neg h3]
    have b3 : ((m.dn : Int) == (fuel : Int)) = false := by rw [beq_eq_false_iff_ne]; omega
    have HB := hide h
    generalize m.pl = pl at *
    generalize m.dn = dn at *
    go_enter Tryz.func156, Tryz.ntmps156
    go_wp2_with fail
    go_quiet (fail)
    go_wp2_with fail
    go_quiet (fail)
    go_wp2_with fail
    exact ⟨rfl, _, results_none rfl _ _ _, rfl, HB.out.drawn rfl, grown_drewN (grown_none w _ _) _⟩
end Go.Proofs.YtkfnedhllfdghaaGreatDoor
end

section
namespace Go.Proofs.YtkfnedhllfdghaaGreatDoor
set_option maxRecDepth 20000
open Go.RowKit Go.Shelf

theorem trap_yes (W : World) (n : Int) : (Instr.typeAssert (.iface 202 (.int .i64 n)) 20 202 true).run Tryz.prog W = .ok (.tuple #[.int .i64 n, .bool true]) W := by kernel_rfl
theorem trap_nil (W : World) : (Instr.typeAssert .nilIface 20 202 true).run Tryz.prog W = .ok (.tuple #[.int .i64 0, .bool false]) W := by kernel_rfl
theorem idleT (w : World) (Z X : Nat) :
    CallsD Tryz.prog 154 #[.pointer (some ⟨Z, 0, none⟩), .pointer (some ⟨X, 0, none⟩)] .returning w fun e u' w' => e = .returned (.tuple #[]) ∧ u' = .returning ∧ w' = w := by
  refine callsD_of_wpS Tryz.func154 rfl fun c₀ cs hu => ?_
  apply wpS_seq
  apply wpS_region
  simp [wpOpsS, go_sem, recoverD, hu, Tryz.ntmps154, Exit.thenS, trap_nil]
  apply wpS_seq
  apply wpS_region
  simp [wpOpsS, go_sem, Exit.thenS]
  refine wpS_cond (t := false) (by simp [Act.eval, Array.replicate]) ?_
  simp only [Bool.false_eq_true, if_false]
  refine wpS_of_wp (wp_skip ?_)
  cases c₀
  simp_all [bodyPostS, results, Tryz.results154]
set_option maxHeartbeats 1000000 in
theorem catchT {w : World} {B X Z fuel at_ t : Nat} {m : Mc} {v : Value} (h : Mb w B m v fuel)
    (hZ : w.cell? ⟨Z, 0, none⟩ = some (.int .i64 (at_ : Int))) (hX : w.cell? ⟨X, 0, none⟩ = some (.pointer (some ⟨B, 0, none⟩))) (older : List PanicEntry) :
    CallsD Tryz.prog 154 #[.pointer (some ⟨Z, 0, none⟩), .pointer (some ⟨X, 0, none⟩)] (.panicking ({ v := .iface 202 (.int .i64 (t : Int)), recovered := false } :: older)) w fun e u' w' =>
      e = .returned (.tuple #[]) ∧ u' = .panicking ({ v := .iface 202 (.int .i64 (t : Int)), recovered := true } :: older) ∧ Mb w' B { m with pl := at_, ov := true, en := t } v fuel ∧ w.grownBy w' (some B) := by
  have c2 := h.cell (h.l8.g_pl v fuel)
  have z := h.z
  have h1 := h.set (h.l8.s_pl v fuel at_) (h.l8.of rfl rfl rfl)
  have k32 := h1.cell (h1.l8.g_ov v fuel)
  have z1 := h1.z
  have h2 := h1.set (h1.l8.s_ov v fuel true) (h1.l8.of rfl rfl rfl)
  have k33 := h2.cell (h2.l8.g_en v fuel)
  have z2 := h2.z
  have HS := hide (h2.set (h2.l8.s_en v fuel t) (h2.l8.of rfl rfl rfl))
  have HG := hide (i_grown_trans (i_grown_trans (i_grown_set w B 2 (.int .i64 (at_ : Int))) (i_grown_set _ B 32 (.bool true))) (i_grown_set _ B 33 (.int .i64 (t : Int))))
  clear h1 h2 h
  refine callsD_of_wpS Tryz.func154 rfl fun c₀ cs hu => ?_
  apply wpS_seq
  apply wpS_region
  simp [wpOpsS, go_sem, recoverD, hu, Tryz.ntmps154, Exit.thenS, trap_yes]
  apply wpS_seq
  apply wpS_region
  simp [wpOpsS, go_sem, Exit.thenS]
  refine wpS_cond (t := true) (by simp [Act.eval, Array.replicate]) ?_
  simp only [if_true]
  refine wpS_of_wp ?_
  simp only [Array.replicate, List.replicate]
  go_wp2
  exact ⟨rfl, _, rfl, _, results_none rfl _ _ _, rfl, rfl, HS.out, HG.out⟩
end Go.Proofs.YtkfnedhllfdghaaGreatDoor
end
