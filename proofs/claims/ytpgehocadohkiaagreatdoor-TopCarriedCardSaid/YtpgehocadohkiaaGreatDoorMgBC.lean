import Derived.Test.YtpgehocadohkiaaGreatDoorMgBB

section
namespace Go.Proofs.YtpgehocadohkiaaGreatDoor
open Go.RowKit Go.Shelf

theorem fin2 {w w' : World} {B fuel : Nat} {m : Mc} {v : Value} (h : Mb w' B m v fuel) (g : w.grownBy w' (some B)) (hs : w'.heap.size = w.heap.size) (o1 : Obj) (k t : Value) :
    ((w'.alloc o1).alloc (.cells #[k, t] 56)).heap[w.heap.size + 1]? = some (.cells #[k, t] 56 (0, 0)) ∧ Mb ((w'.alloc o1).alloc (.cells #[k, t] 56)) B m v fuel ∧ w.grownBy ((w'.alloc o1).alloc (.cells #[k, t] 56)) (some B) := by
  have g2 : Below w'.heap.size w' ((w'.alloc o1).alloc (.cells #[k, t] 56)) := (below_one w' _).trans ((below_one _ _).mono (by simp))
  refine ⟨?_, h.below g2 h.lt, i_grown_trans g (i_grown_below g2 _)⟩
  have q := heap_alloc_new (w'.alloc o1) (.cells #[k, t] 56)
  rw [World.size_alloc, hs] at q
  exact q
theorem w2_cell {w w' : World} (hs : w'.heap.size = w.heap.size) (cs : Array Value) (T : Nat) (o2 : Obj) (i : Nat) (u : Value) (hi : cs[i]? = some u) : ((w'.alloc (.cells cs T)).alloc o2).cell? ⟨w.heap.size, i, none⟩ = some u := by
  have q : ((w'.alloc (.cells cs T)).alloc o2).heap[w.heap.size]? = some (.cells cs T (0, 0)) := (heap_alloc_old _ _ (by simp [hs])).trans (by rw [← hs]; exact heap_alloc_new w' _)
  simp [World.cell?, q, hi]
theorem size_set (w : World) (B i : Nat) (u : Value) : (w.setCell ⟨B, i, none⟩ u).heap.size = w.heap.size := by show (w.heap.modify B _).size = _; simp
set_option maxRecDepth 20000 in
set_option maxHeartbeats 2000000 in
theorem jump_any (op : Int) (a b c n k : Nat)  {w : World} {B fuel : Nat} {m : Mc} {v : Value} (h : Mb w B m v fuel) :
    Calls Tryz.prog 137 #[.pointer (some ⟨B, 0, none⟩), .agg #[.int .i64 op, .int .i64 (a : Int), .int .i64 (b : Int), .int .i64 (c : Int), .int .i64 (n : Int), .int .u64 (k : Int)]] w (APost w B v fuel (0, { m with pl := n }, 0, ByteArray.empty)) := by
  have HB := hide h
  have hlt := h.lt
  have hne : ¬ B = w.heap.size := by omega
  have hne1 : ¬ B = w.heap.size + 1 := by omega
  have za := h.z
  have c2 := h.cell (h.l8.g_pl v fuel)
  have H1 := hide (h.set (h.l8.s_pl v fuel n) (h.l8.of rfl rfl rfl))
  go_enter Tryz.func137, Tryz.ntmps137
  go_wp2_with fail
  obtain ⟨q1, q2, q3⟩ := fin2 H1.out (i_grown_set w B 2 _) (size_set w B 2 _) (.cells #[.int .i64 op, .int .i64 (a : Int), .int .i64 (b : Int), .int .i64 (c : Int), .int .i64 (n : Int), .int .u64 (k : Int)] 71) (.int .i64 0) (.string ⟨#[]⟩)
  exact bodyPost_ret (results_cell_row (p := 4) (ty := 56) rfl _ _ (w.heap.size + 1) 56 _ (0, 0) _ rfl q1 Tryz.underlying56 rfl (by kernel_rfl)) rfl ⟨fun _ => rfl, fun h0 => absurd rfl h0, q2, q3⟩
set_option maxRecDepth 20000 in
set_option maxHeartbeats 2000000 in
theorem i_set_any (op : Int) (a b c n k : Nat) (ha : a < 8) {w : World} {B fuel : Nat} {m : Mc} {v : Value} (h : Mb w B m v fuel) :
    Calls Tryz.prog 124 #[.pointer (some ⟨B, 0, none⟩), .agg #[.int .i64 op, .int .i64 (a : Int), .int .i64 (b : Int), .int .i64 (c : Int), .int .i64 (n : Int), .int .u64 (k : Int)]] w (APost w B v fuel (0, { m with R := m.R.set a k }, 0, ByteArray.empty)) := by
  have HB := hide h
  have hlt := h.lt
  have hne : ¬ B = w.heap.size := by omega
  have hne1 : ¬ B = w.heap.size + 1 := by omega
  have za := h.z
  have hai : (a : Int) < 8 := by omega
  obtain ⟨ra, hra⟩ : ∃ ra, m.R[a]! = ra := ⟨_, rfl⟩
  have ca := h.cell (h.l8.gR v fuel a ha)
  rw [hra] at ca
  clear hra
  have H1 := hide (h.set (h.l8.gRs v fuel a k ha) (h.l8.setR a k))
  have k1 := w2_cell (size_set w B (3 + a) (.int .u64 (k : Int))) #[.int .i64 op, .int .i64 (a : Int), .int .i64 (b : Int), .int .i64 (c : Int), .int .i64 (n : Int), .int .u64 (k : Int)] 71 (.cells #[.int .i64 0, .string ⟨#[]⟩] 56) 1 _ rfl
  have k5 := w2_cell (size_set w B (3 + a) (.int .u64 (k : Int))) #[.int .i64 op, .int .i64 (a : Int), .int .i64 (b : Int), .int .i64 (c : Int), .int .i64 (n : Int), .int .u64 (k : Int)] 71 (.cells #[.int .i64 0, .string ⟨#[]⟩] 56) 5 _ rfl
  go_enter Tryz.func124, Tryz.ntmps124
  go_wp2_with fail
  go_region_held3 (fun w' => w'.cell? ⟨w.heap.size, 1, none⟩ = some (.int .i64 (a : Int)) ∧ w'.cell? ⟨w.heap.size, 5, none⟩ = some (.int .u64 (k : Int))) (first | go_keep | exact ⟨k1, k5⟩) (first | fail)
  go_wp2_with fail
  obtain ⟨q1, q2, q3⟩ := fin2 H1.out (i_grown_set w B (3 + a) _) (size_set w B (3 + a) _) (.cells #[.int .i64 op, .int .i64 (a : Int), .int .i64 (b : Int), .int .i64 (c : Int), .int .i64 (n : Int), .int .u64 (k : Int)] 71) (.int .i64 0) (.string ⟨#[]⟩)
  exact bodyPost_ret (results_cell_row (p := 4) (ty := 56) rfl _ _ (w.heap.size + 1) 56 _ (0, 0) _ rfl q1 Tryz.underlying56 rfl (by kernel_rfl)) rfl ⟨fun _ => rfl, fun h0 => absurd rfl h0, q2.drew, i_grown_drew q3⟩
set_option maxRecDepth 20000 in
set_option maxHeartbeats 2000000 in
theorem halt_any (op : Int) (a b c n k : Nat)  {w : World} {B fuel : Nat} {m : Mc} {v : Value} (h : Mb w B m v fuel) :
    Calls Tryz.prog 147 #[.pointer (some ⟨B, 0, none⟩), .agg #[.int .i64 op, .int .i64 (a : Int), .int .i64 (b : Int), .int .i64 (c : Int), .int .i64 (n : Int), .int .u64 (k : Int)]] w (APost w B v fuel (0, { m with ov := true }, 0, ByteArray.empty)) := by
  have HB := hide h
  have hlt := h.lt
  have hne : ¬ B = w.heap.size := by omega
  have hne1 : ¬ B = w.heap.size + 1 := by omega
  have za := h.z
  have c2 := h.cell (h.l8.g_ov v fuel)
  have H1 := hide (h.set (h.l8.s_ov v fuel true) (h.l8.of rfl rfl rfl))
  go_enter Tryz.func147, Tryz.ntmps147
  go_wp2_with fail
  obtain ⟨q1, q2, q3⟩ := fin2 H1.out (i_grown_set w B 32 _) (size_set w B 32 _) (.cells #[.int .i64 op, .int .i64 (a : Int), .int .i64 (b : Int), .int .i64 (c : Int), .int .i64 (n : Int), .int .u64 (k : Int)] 71) (.int .i64 0) (.string ⟨#[]⟩)
  exact bodyPost_ret (results_cell_row (p := 4) (ty := 56) rfl _ _ (w.heap.size + 1) 56 _ (0, 0) _ rfl q1 Tryz.underlying56 rfl (by kernel_rfl)) rfl ⟨fun _ => rfl, fun h0 => absurd rfl h0, q2, q3⟩
set_option maxRecDepth 20000 in
set_option maxHeartbeats 2000000 in
theorem fail_any (op : Int) (a b c n k : Nat)  {w : World} {B fuel : Nat} {m : Mc} {v : Value} (h : Mb w B m v fuel) :
    Calls Tryz.prog 146 #[.pointer (some ⟨B, 0, none⟩), .agg #[.int .i64 op, .int .i64 (a : Int), .int .i64 (b : Int), .int .i64 (c : Int), .int .i64 (n : Int), .int .u64 (k : Int)]] w (APost w B v fuel (7, m, 0, ByteArray.empty)) := by
  have HB := hide h
  have hlt := h.lt
  have hne : ¬ B = w.heap.size := by omega
  have hne1 : ¬ B = w.heap.size + 1 := by omega
  have za := h.z
  go_enter Tryz.func146, Tryz.ntmps146
  go_wp2_with fail
  obtain ⟨q1, q2, q3⟩ := fin2 HB.out (w := w) ⟨rfl, rfl, rfl, Nat.le_refl _, fun _ _ _ => rfl⟩ rfl (.cells #[.int .i64 op, .int .i64 (a : Int), .int .i64 (b : Int), .int .i64 (c : Int), .int .i64 (n : Int), .int .u64 (k : Int)] 71) (.int .i64 0) (.string ⟨#[]⟩)
  exact ⟨rfl, fun h0 => absurd (show (7 : Nat) = 0 from h0) (by decide), fun _ => rfl, q2, q3⟩
set_option maxRecDepth 20000 in
set_option maxHeartbeats 2000000 in
theorem jumpIf_any (op : Int) (a b c n k : Nat) (ha : a < 8) (ra : Nat) (h64 : ra < 18446744073709551616) {w : World} {B fuel : Nat} {m : Mc} {v : Value} (h : Mb w B m v fuel) (hr : m.R[a]! = ra) :
    Calls Tryz.prog 138 #[.pointer (some ⟨B, 0, none⟩), .agg #[.int .i64 op, .int .i64 (a : Int), .int .i64 (b : Int), .int .i64 (c : Int), .int .i64 (n : Int), .int .u64 (k : Int)]] w (APost w B v fuel (0, { m with pl := if clsN ra = 2 then m.pl else n }, 0, ByteArray.empty)) := by
  have HB := hide h
  have hlt := h.lt
  have hne : ¬ B = w.heap.size := by omega
  have hne1 : ¬ B = w.heap.size + 1 := by omega
  have za := h.z
  have hai : (a : Int) < 8 := by omega
  have ca := h.cell (h.l8.gR v fuel a ha)
  rw [hr] at ca
  have c2 := h.cell (h.l8.g_pl v fuel)
  have H1 := hide (h.set (h.l8.s_pl v fuel n) (h.l8.of rfl rfl rfl))
  have HC := hide (class_any ra h64)
  by_cases hc : clsN ra = 2
  · rw [if_pos hc]
    rw [hc] at HC
    clear hc
    go_enter Tryz.func138, Tryz.ntmps138
    go_wp2_with fail
    go_region_held3 (fun w' => w'.cell? ⟨w.heap.size, 1, none⟩ = some (.int .i64 (a : Int)) ∧ w'.cell? ⟨B, 3 + a, none⟩ = some (.int .u64 (ra : Int))) (go_keep) (first | (go_at_call 151; refine (HC.out _).mono ?_; rintro e w4 ⟨rfl, rfl⟩))
    go_wp2_with fail
    obtain ⟨q1, q2, q3⟩ := fin2 HB.out (w := w) ⟨rfl, rfl, rfl, Nat.le_refl _, fun _ _ _ => rfl⟩ rfl (.cells #[.int .i64 op, .int .i64 (a : Int), .int .i64 (b : Int), .int .i64 (c : Int), .int .i64 (n : Int), .int .u64 (k : Int)] 71) (.int .i64 0) (.string ⟨#[]⟩)
    exact bodyPost_ret (results_cell_row (p := 4) (ty := 56) rfl _ _ (w.heap.size + 1) 56 _ (0, 0) _ rfl q1 Tryz.underlying56 rfl (by kernel_rfl)) rfl ⟨fun _ => rfl, fun h0 => absurd rfl h0, q2.drew, i_grown_drew q3⟩
  · rw [if_neg hc]
    have hb : ((clsN ra : Int) != 2) = true := by rw [bne_iff_ne]; omega
    generalize (clsN ra : Int) = cl at *
    clear hc
    go_enter Tryz.func138, Tryz.ntmps138
    go_wp2_with fail
    go_region_held3 (fun w' => w'.cell? ⟨w.heap.size, 1, none⟩ = some (.int .i64 (a : Int)) ∧ w'.cell? ⟨B, 3 + a, none⟩ = some (.int .u64 (ra : Int))) (go_keep) (first | (go_at_call 151; refine (HC.out _).mono ?_; rintro e w4 ⟨rfl, rfl⟩))
    go_wp2_with fail
    obtain ⟨q1, q2, q3⟩ := fin2 H1.out (i_grown_set w B 2 _) (size_set w B 2 _) (.cells #[.int .i64 op, .int .i64 (a : Int), .int .i64 (b : Int), .int .i64 (c : Int), .int .i64 (n : Int), .int .u64 (k : Int)] 71) (.int .i64 0) (.string ⟨#[]⟩)
    exact bodyPost_ret (results_cell_row (p := 4) (ty := 56) rfl _ _ (w.heap.size + 1) 56 _ (0, 0) _ rfl q1 Tryz.underlying56 rfl (by kernel_rfl)) rfl ⟨fun _ => rfl, fun h0 => absurd rfl h0, q2.drew, i_grown_drew q3⟩
end Go.Proofs.YtpgehocadohkiaaGreatDoor
end

section
namespace Go.Proofs.YtpgehocadohkiaaGreatDoor
open Go.RowKit Go.Shelf

theorem W2_in {w w4 : World} {B : Nat} {op n : Int} {a b c k : Nat} (g : (W2 w op a b c n k).grownBy w4 (some B)) (hB : B < w.heap.size) (i : Nat) (u : Value) (hi : (#[.int .i64 op, .int .i64 (a : Int), .int .i64 (b : Int), .int .i64 (c : Int), .int .i64 n, .int .u64 (k : Int)] : Array Value)[i]? = some u) : w4.cell? ⟨w.heap.size, i, none⟩ = some u :=
  g.cell (w2_cell rfl _ _ _ i u hi) (by simp; omega)
set_option maxRecDepth 20000 in
set_option maxHeartbeats 2000000 in
theorem jumpTo_ok (op : Int) (a b c n k : Nat) (ha : a < 8) (ra : Nat) (h64 : ra < 18446744073709551616) (many : Nat) (hk : Gn.intOk ra = true) (h0 : 0 ≤ Gn.intV ra) (h1 : Gn.intV ra ≤ (many : Int)) {w : World} {B fuel : Nat} {m : Mc} {v : Value} (h : Mb w B m v fuel) (hr : m.R[a]! = ra) (p : Option Addr) (cap : Nat) (hv : v = .slice p many cap) :
    Calls Tryz.prog 139 #[.pointer (some ⟨B, 0, none⟩), .agg #[.int .i64 op, .int .i64 (a : Int), .int .i64 (b : Int), .int .i64 (c : Int), .int .i64 (n : Int), .int .u64 (k : Int)]] w (APost w B v fuel (0, { m with pl := (Gn.intV ra).toNat }, 0, ByteArray.empty)) := by
  have HB := hide h
  have hlt := h.lt
  have hne : ¬ B = w.heap.size := by omega
  have hne1 : ¬ B = w.heap.size + 1 := by omega
  have za := h.z
  have hai : (a : Int) < 8 := by omega
  have ca := h.cell (h.l8.gR v fuel a ha)
  rw [hr] at ca
  have c2 := h.cell (h.l8.g_pl v fuel)
  have c0 : w.cell? ⟨B, 0, none⟩ = some (.slice p many cap) := by rw [← hv]; exact h.cell rfl
  have HC := hide (int_any ra h64)
  clear hv
  have H1 := hide (h.set (h.l8.s_pl v fuel (Gn.intV ra).toNat) (h.l8.of rfl rfl rfl))
  rw [int_yes hk] at HC
  obtain ⟨q, hq⟩ : ∃ q : Nat, Gn.intV ra = (q : Int) := ⟨(Gn.intV ra).toNat, by omega⟩
  rw [hq] at HC h1 H1
  rw [hq] at h0
  simp only [hq, Int.toNat_natCast] at H1 ⊢
  have b1 : ¬ (many : Int) < (q : Int) := by omega
  have b2 : ¬ (q : Int) < 0 := by omega
  clear hq hk h h0 h1
  go_enter Tryz.func139, Tryz.ntmps139
  go_wp2_with fail
  go_region_held3 (fun w' => w'.cell? ⟨w.heap.size, 1, none⟩ = some (.int .i64 (a : Int)) ∧ w'.cell? ⟨B, 3 + a, none⟩ = some (.int .u64 (ra : Int))) (go_keep) (first | (go_at_call 175; refine (HC.out _).mono ?_; rintro e w4 ⟨rfl, rfl⟩))
  go_wp2_with fail
  obtain ⟨q1, q2, q3⟩ := fin2 H1.out (i_grown_set w B 2 _) (size_set w B 2 _) (.cells #[.int .i64 op, .int .i64 (a : Int), .int .i64 (b : Int), .int .i64 (c : Int), .int .i64 (n : Int), .int .u64 (k : Int)] 71) (.int .i64 0) (.string ⟨#[]⟩)
  exact bodyPost_ret (results_cell_row (p := 4) (ty := 56) rfl _ _ (w.heap.size + 1) 56 _ (0, 0) _ rfl q1 Tryz.underlying56 rfl (by kernel_rfl)) rfl ⟨fun _ => rfl, fun h0 => absurd rfl h0, q2.drew, i_grown_drew q3⟩
set_option maxRecDepth 20000 in
set_option maxHeartbeats 2000000 in
theorem jumpTo_no1 (op : Int) (a b c n k : Nat) (ha : a < 8) (ra : Nat) (h64 : ra < 18446744073709551616) (many : Nat) (hk : Gn.intOk ra = false) {w : World} {B fuel : Nat} {m : Mc} {v : Value} (h : Mb w B m v fuel) (hr : m.R[a]! = ra) (p : Option Addr) (cap : Nat) (hv : v = .slice p many cap) :
    Calls Tryz.prog 139 #[.pointer (some ⟨B, 0, none⟩), .agg #[.int .i64 op, .int .i64 (a : Int), .int .i64 (b : Int), .int .i64 (c : Int), .int .i64 (n : Int), .int .u64 (k : Int)]] w (APost w B v fuel (4, m, 0, ByteArray.empty)) := by
  have HB := hide h
  have hlt := h.lt
  have hne : ¬ B = w.heap.size := by omega
  have hne1 : ¬ B = w.heap.size + 1 := by omega
  have za := h.z
  have hai : (a : Int) < 8 := by omega
  have ca := h.cell (h.l8.gR v fuel a ha)
  rw [hr] at ca
  have c2 := h.cell (h.l8.g_pl v fuel)
  have c0 : w.cell? ⟨B, 0, none⟩ = some (.slice p many cap) := by rw [← hv]; exact h.cell rfl
  have HC := hide (int_any ra h64)
  clear hv
  rw [int_no hk] at HC
  clear hk h
  go_enter Tryz.func139, Tryz.ntmps139
  go_wp2_with fail
  go_region_held3 (fun w' => w'.cell? ⟨w.heap.size, 1, none⟩ = some (.int .i64 (a : Int)) ∧ w'.cell? ⟨B, 3 + a, none⟩ = some (.int .u64 (ra : Int))) (go_keep) (first | (go_at_call 175; refine (HC.out _).mono ?_; rintro e w4 ⟨rfl, rfl⟩))
  go_wp2_with fail
  obtain ⟨q1, q2, q3⟩ := fin2 HB.out (w := w) ⟨rfl, rfl, rfl, Nat.le_refl _, fun _ _ _ => rfl⟩ rfl (.cells #[.int .i64 op, .int .i64 (a : Int), .int .i64 (b : Int), .int .i64 (c : Int), .int .i64 (n : Int), .int .u64 (k : Int)] 71) (.int .i64 0) (.string ⟨#[]⟩)
  exact ⟨rfl, fun h0 => absurd (show (4 : Nat) = 0 from h0) (by decide), fun _ => rfl, q2.drew, i_grown_drew q3⟩
set_option maxRecDepth 20000 in
set_option maxHeartbeats 2000000 in
theorem jumpTo_no2 (op : Int) (a b c n k : Nat) (ha : a < 8) (ra : Nat) (h64 : ra < 18446744073709551616) (many : Nat) (hk : Gn.intOk ra = true) (hx : ¬ (0 ≤ Gn.intV ra ∧ Gn.intV ra ≤ (many : Int))) {w : World} {B fuel : Nat} {m : Mc} {v : Value} (h : Mb w B m v fuel) (hr : m.R[a]! = ra) (p : Option Addr) (cap : Nat) (hv : v = .slice p many cap) :
    Calls Tryz.prog 139 #[.pointer (some ⟨B, 0, none⟩), .agg #[.int .i64 op, .int .i64 (a : Int), .int .i64 (b : Int), .int .i64 (c : Int), .int .i64 (n : Int), .int .u64 (k : Int)]] w (APost w B v fuel (4, m, 0, ByteArray.empty)) := by
  have HB := hide h
  have hlt := h.lt
  have hne : ¬ B = w.heap.size := by omega
  have hne1 : ¬ B = w.heap.size + 1 := by omega
  have za := h.z
  have hai : (a : Int) < 8 := by omega
  have ca := h.cell (h.l8.gR v fuel a ha)
  rw [hr] at ca
  have c2 := h.cell (h.l8.g_pl v fuel)
  have c0 : w.cell? ⟨B, 0, none⟩ = some (.slice p many cap) := by rw [← hv]; exact h.cell rfl
  have HC := hide (int_any ra h64)
  clear hv
  rw [int_yes hk] at HC
  generalize Gn.intV ra = q at *
  clear hk h
  rcases Int.lt_or_le q 0 with b1 | b1
  · go_enter Tryz.func139, Tryz.ntmps139
    go_wp2_with fail
    go_region_held3 (fun w' => w'.cell? ⟨w.heap.size, 1, none⟩ = some (.int .i64 (a : Int)) ∧ w'.cell? ⟨B, 3 + a, none⟩ = some (.int .u64 (ra : Int))) (go_keep) (first | (go_at_call 175; refine (HC.out _).mono ?_; rintro e w4 ⟨rfl, rfl⟩))
    go_wp2_with fail
    obtain ⟨q1, q2, q3⟩ := fin2 HB.out (w := w) ⟨rfl, rfl, rfl, Nat.le_refl _, fun _ _ _ => rfl⟩ rfl (.cells #[.int .i64 op, .int .i64 (a : Int), .int .i64 (b : Int), .int .i64 (c : Int), .int .i64 (n : Int), .int .u64 (k : Int)] 71) (.int .i64 0) (.string ⟨#[]⟩)
    exact ⟨rfl, fun h0 => absurd (show (4 : Nat) = 0 from h0) (by decide), fun _ => rfl, q2.drew, i_grown_drew q3⟩
  · have b2 : (many : Int) < q := by omega
    have b3 : ¬ q < 0 := by omega
    go_enter Tryz.func139, Tryz.ntmps139
    go_wp2_with fail
    go_region_held3 (fun w' => w'.cell? ⟨w.heap.size, 1, none⟩ = some (.int .i64 (a : Int)) ∧ w'.cell? ⟨B, 3 + a, none⟩ = some (.int .u64 (ra : Int))) (go_keep) (first | (go_at_call 175; refine (HC.out _).mono ?_; rintro e w4 ⟨rfl, rfl⟩))
    go_wp2_with fail
    obtain ⟨q1, q2, q3⟩ := fin2 HB.out (w := w) ⟨rfl, rfl, rfl, Nat.le_refl _, fun _ _ _ => rfl⟩ rfl (.cells #[.int .i64 op, .int .i64 (a : Int), .int .i64 (b : Int), .int .i64 (c : Int), .int .i64 (n : Int), .int .u64 (k : Int)] 71) (.int .i64 0) (.string ⟨#[]⟩)
    exact ⟨rfl, fun h0 => absurd (show (4 : Nat) = 0 from h0) (by decide), fun _ => rfl, q2.drew, i_grown_drew q3⟩
end Go.Proofs.YtpgehocadohkiaaGreatDoor
end

section
namespace Go.Proofs.YtpgehocadohkiaaGreatDoor
open Go.RowKit Go.Shelf

theorem DoE.drew1 {w w5 : World} {B fuel : Nat} {m : Mc} {v : Value} (h : DoE w w5 B m v fuel) : DoE w w5.drew B m v fuel := h.drew 1
set_option maxRecDepth 20000 in
set_option maxHeartbeats 2000000 in
theorem call_ok (op : Int) (a b c n k : Nat)  {w : World} {B fuel : Nat} {m : Mc} {v : Value} (h : Mb w B m v fuel) (hp : m.pn < 8) :
    Calls Tryz.prog 140 #[.pointer (some ⟨B, 0, none⟩), .agg #[.int .i64 op, .int .i64 (a : Int), .int .i64 (b : Int), .int .i64 (c : Int), .int .i64 (n : Int), .int .u64 (k : Int)]] w (APost w B v fuel (0, { m with P := m.P.set m.pn m.pl, pn := m.pn + 1, pl := n }, 0, ByteArray.empty)) := by
  have HB := hide h
  have hlt := h.lt
  have hne : ¬ B = w.heap.size := by omega
  have hne1 : ¬ B = w.heap.size + 1 := by omega
  have za := h.z
  have c2 := h.cell (h.l8.g_pl v fuel)
  have HE : Hid (DoE w (W2 w op a b c (n : Int) k) B m v fuel) := w2_E h
  have HE1 := hide HE.out.drew1
  obtain ⟨pl, hpl⟩ : ∃ pl, m.pl = pl := ⟨_, rfl⟩
  have HPU := hide (pushI_ok HE1.out.mb hp m.pl)
  rw [hpl] at c2 HPU ⊢
  go_enter Tryz.func140, Tryz.ntmps140
  go_wp2_with fail
  go_region_held3 (fun w' => w'.cell? ⟨B, 2, none⟩ = some (.int .i64 (pl : Int))) (first | exact k2 | go_keep) (first | (go_at_call 176; refine HPU.out.mono ?_; rintro e w4 ⟨rfl, hm4, hg4⟩; have k2 : w4.cell? ⟨B, 2, none⟩ = some (.int .i64 (pl : Int)) := hm4.cell (hm4.l8.g_pl v fuel)))
  have HW := hide (HE1.out.grow hlt hg4 hm4)
  have i4 : w4.cell? ⟨w.heap.size, 4, none⟩ = some (.int .i64 (n : Int)) := hg4.cell (a := ⟨w.heap.size, 4, none⟩) (w2_cell (w := w) (w' := w) rfl _ _ _ 4 _ rfl) (by simp; omega)
  obtain ⟨r0, r1, rf⟩ := HW.out.act
  have z4 := hm4.z
  have HW2 := hide (HW.out.set hlt (HW.out.mb.l8.s_pl v fuel n) (HW.out.mb.l8.of rfl rfl rfl))
  clear hg4 hm4 c2
  go_wp2_with fail
  obtain ⟨q1, q2, q3⟩ := HW2.out.fin hlt (.int .i64 0) (.string ⟨#[]⟩)
  exact bodyPost_ret (results_cell_row (p := 4) (ty := 56) rfl _ _ (w.heap.size + 1) 56 _ (0, 0) _ rfl q1 Tryz.underlying56 rfl (by kernel_rfl)) rfl ⟨fun _ => rfl, fun h0 => absurd rfl h0, q2, q3⟩
set_option maxRecDepth 20000 in
set_option maxHeartbeats 2000000 in
theorem call_no (op : Int) (a b c n k : Nat)  {w : World} {B fuel : Nat} {m : Mc} {v : Value} (h : Mb w B m v fuel) (hp : m.pn = 8) :
    Calls Tryz.prog 140 #[.pointer (some ⟨B, 0, none⟩), .agg #[.int .i64 op, .int .i64 (a : Int), .int .i64 (b : Int), .int .i64 (c : Int), .int .i64 (n : Int), .int .u64 (k : Int)]] w (APost w B v fuel (2, m, 0, ByteArray.empty)) := by
  have HB := hide h
  have hlt := h.lt
  have hne : ¬ B = w.heap.size := by omega
  have hne1 : ¬ B = w.heap.size + 1 := by omega
  have za := h.z
  have c2 := h.cell (h.l8.g_pl v fuel)
  have HE : Hid (DoE w (W2 w op a b c (n : Int) k) B m v fuel) := w2_E h
  have HE1 := hide HE.out.drew1
  obtain ⟨pl, hpl⟩ : ∃ pl, m.pl = pl := ⟨_, rfl⟩
  have HPU := hide (pushI_no HE1.out.mb hp m.pl)
  rw [hpl] at c2 HPU
  go_enter Tryz.func140, Tryz.ntmps140
  go_wp2_with fail
  refine wp_region_held_drew (S := fun w' => w'.cell? ⟨B, 2, none⟩ = some (.int .i64 (pl : Int))) (by kernel_rfl) (Lib.cell?_alloc_some _ (Lib.cell?_alloc_some _ c2)) (fun hH => ?_)
  refine wpAnyH_take (i := 0) (v := .pointer (some ⟨B, 0, none⟩)) rfl (by kernel_rfl) (by kernel_rfl) (by kernel_rfl) (fun _ _ _ h => h) (Or.inl ⟨by kernel_rfl, fun w9 hS => by kernel_rfl⟩) hH ?_
  simp only [Act.put, List.setIfInBounds_toArray]
  refine wpAnyH_take (i := 1) (v := .pointer (some ⟨B, 0, none⟩)) rfl (by kernel_rfl) (by kernel_rfl) (by kernel_rfl) (fun _ _ _ h => h) (Or.inl ⟨by kernel_rfl, fun w9 hS => by kernel_rfl⟩) hH ?_
  simp only [Act.put]
  refine wpAnyH_take (i := 2) (v := .pointer (some ⟨B, 20, none⟩)) rfl (by kernel_rfl) (by kernel_rfl) (by kernel_rfl) (fun _ _ _ h => h) (Or.inl ⟨by kernel_rfl, fun w9 hS => by kernel_rfl⟩) hH ?_
  simp only [Act.put]
  refine wpAnyH_take (i := 3) (v := .pointer (some ⟨B, 0, none⟩)) rfl (by kernel_rfl) (by kernel_rfl) (by kernel_rfl) (fun _ _ _ h => h) (Or.inl ⟨by kernel_rfl, fun w9 hS => by kernel_rfl⟩) hH ?_
  simp only [Act.put]
  refine wpAnyH_take (i := 4) (v := .pointer (some ⟨B, 0, none⟩)) rfl (by kernel_rfl) (by kernel_rfl) (by kernel_rfl) (fun _ _ _ h => h) (Or.inl ⟨by kernel_rfl, fun w9 hS => by kernel_rfl⟩) hH ?_
  simp only [Act.put]
  refine wpAnyH_take (i := 5) (v := .pointer (some ⟨B, 2, none⟩)) rfl (by kernel_rfl) (by kernel_rfl) (by kernel_rfl) (fun _ _ _ h => h) (Or.inl ⟨by kernel_rfl, fun w9 hS => by kernel_rfl⟩) hH ?_
  simp only [Act.put]
  refine wpAnyH_take (i := 6) (v := .int .i64 (pl : Int)) rfl (by kernel_rfl) (by kernel_rfl) (by kernel_rfl) (fun _ _ _ h => h) (Or.inl ⟨by kernel_rfl, fun w9 hS => by go_simp⟩) hH ?_
  simp only [Act.put]
  refine wpAnyH_ready (rs := [7]) (by kernel_rfl) (by simp) ?_
  refine AllReadyH.cons rfl (fun K hK => ?_) AllReadyH.nil
  go_simp
  refine HPU.out.mono ?_
  rintro e w4 ⟨he, rfl⟩
  unfold Traps at he
  subst he
  exact ⟨rfl, fun h0 => absurd (show (2 : Nat) = 0 from h0) (by decide), fun _ => rfl, HE1.out.mb, HE1.out.gr⟩
set_option maxRecDepth 20000 in
set_option maxHeartbeats 2000000 in
theorem ret_ok (op : Int) (a b c n k : Nat)  {w : World} {B fuel : Nat} {m : Mc} {v : Value} (h : Mb w B m v fuel) (hp : m.pn ≤ 8) (h0 : m.pn ≠ 0) :
    Calls Tryz.prog 141 #[.pointer (some ⟨B, 0, none⟩), .agg #[.int .i64 op, .int .i64 (a : Int), .int .i64 (b : Int), .int .i64 (c : Int), .int .i64 (n : Int), .int .u64 (k : Int)]] w (APost w B v fuel (0, { m with pn := m.pn - 1, pl := m.P[m.pn - 1]! }, 0, ByteArray.empty)) := by
  have HB := hide h
  have hlt := h.lt
  have hne : ¬ B = w.heap.size := by omega
  have hne1 : ¬ B = w.heap.size + 1 := by omega
  have za := h.z
  have c2 := h.cell (h.l8.g_pl v fuel)
  have HE : Hid (DoE w (W2 w op a b c (n : Int) k) B m v fuel) := w2_E h
  have HE1 := hide HE.out.drew1
  obtain ⟨y, hy⟩ : ∃ y, m.P[m.pn - 1]! = y := ⟨_, rfl⟩
  have HPU := hide (popI_ok HE.out.mb hp h0)
  rw [hy] at HPU ⊢
  go_enter Tryz.func141, Tryz.ntmps141
  go_wp2_with fail
  refine HPU.out.mono ?_
  rintro e w4 ⟨rfl, hm4, hg4⟩
  have k2 : w4.cell? ⟨B, 2, none⟩ = some (.int .i64 (m.pl : Int)) := hm4.cell (hm4.l8.g_pl v fuel)
  have HW := hide (HE.out.grow hlt hg4 hm4)
  obtain ⟨r0, r1, rf⟩ := HW.out.act
  have z4 := hm4.z
  have HW2 := hide (HW.out.set hlt (HW.out.mb.l8.s_pl v fuel y) (HW.out.mb.l8.of rfl rfl rfl))
  clear hg4 hm4 c2
  go_wp2_with fail
  obtain ⟨q1, q2, q3⟩ := HW2.out.fin hlt (.int .i64 0) (.string ⟨#[]⟩)
  exact bodyPost_ret (results_cell_row (p := 4) (ty := 56) rfl _ _ (w.heap.size + 1) 56 _ (0, 0) _ rfl q1 Tryz.underlying56 rfl (by kernel_rfl)) rfl ⟨fun _ => rfl, fun h0 => absurd rfl h0, q2, q3⟩
set_option maxRecDepth 20000 in
set_option maxHeartbeats 2000000 in
theorem ret_no (op : Int) (a b c n k : Nat)  {w : World} {B fuel : Nat} {m : Mc} {v : Value} (h : Mb w B m v fuel) (hp : m.pn = 0) :
    Calls Tryz.prog 141 #[.pointer (some ⟨B, 0, none⟩), .agg #[.int .i64 op, .int .i64 (a : Int), .int .i64 (b : Int), .int .i64 (c : Int), .int .i64 (n : Int), .int .u64 (k : Int)]] w (APost w B v fuel (3, m, 0, ByteArray.empty)) := by
  have HB := hide h
  have hlt := h.lt
  have hne : ¬ B = w.heap.size := by omega
  have hne1 : ¬ B = w.heap.size + 1 := by omega
  have za := h.z
  have HE : Hid (DoE w (W2 w op a b c (n : Int) k) B m v fuel) := w2_E h
  have HE1 := hide HE.out.drew1
  have HPU := hide (popI_no HE.out.mb hp)
  go_enter Tryz.func141, Tryz.ntmps141
  go_wp2_with fail
  refine HPU.out.mono ?_
  rintro e w4 ⟨he, rfl⟩
  unfold Traps at he
  subst he
  go_wp2_with fail
  exact ⟨rfl, fun h0 => absurd (show (3 : Nat) = 0 from h0) (by decide), fun _ => rfl, HE.out.mb, HE.out.gr⟩
set_option maxRecDepth 20000 in
set_option maxHeartbeats 2000000 in
theorem push_ok (op : Int) (a b c n k : Nat) (ha : a < 8) (ra : Nat) {w : World} {B fuel : Nat} {m : Mc} {v : Value} (h : Mb w B m v fuel) (hr : m.R[a]! = ra) (hp : m.sn < 8) :
    Calls Tryz.prog 142 #[.pointer (some ⟨B, 0, none⟩), .agg #[.int .i64 op, .int .i64 (a : Int), .int .i64 (b : Int), .int .i64 (c : Int), .int .i64 (n : Int), .int .u64 (k : Int)]] w (APost w B v fuel (0, { m with S := m.S.set m.sn ra, sn := m.sn + 1 }, 0, ByteArray.empty)) := by
  have HB := hide h
  have hlt := h.lt
  have hne : ¬ B = w.heap.size := by omega
  have hne1 : ¬ B = w.heap.size + 1 := by omega
  have za := h.z
  have hai : (a : Int) < 8 := by omega
  have ca := h.cell (h.l8.gR v fuel a ha)
  rw [hr] at ca
  have HE : Hid (DoE w (W2 w op a b c (n : Int) k) B m v fuel) := w2_E h
  have HE1 := hide HE.out.drew1
  have HPU := hide (pushU_ok HE1.out.mb hp ra)
  go_enter Tryz.func142, Tryz.ntmps142
  go_wp2_with fail
  go_region_held3 (fun w' => w'.cell? ⟨w.heap.size, 1, none⟩ = some (.int .i64 (a : Int)) ∧ w'.cell? ⟨B, 3 + a, none⟩ = some (.int .u64 (ra : Int))) (first | exact ⟨k1, k2⟩ | go_keep) (first | (go_at_call 178; refine HPU.out.mono ?_; rintro e w4 ⟨rfl, hm4, hg4⟩; have k2 : w4.cell? ⟨B, 3 + a, none⟩ = some (.int .u64 (ra : Int)) := (by rw [← hr]; exact hm4.cell (hm4.l8.gR v fuel a ha)); have k1 : w4.cell? ⟨w.heap.size, 1, none⟩ = some (.int .i64 (a : Int)) := hg4.cell (a := ⟨w.heap.size, 1, none⟩) (w2_cell (w := w) (w' := w) rfl _ _ _ 1 _ rfl) (by simp; omega)))
  have HW := hide (HE1.out.grow hlt hg4 hm4)
  obtain ⟨r0, r1, rf⟩ := HW.out.act
  clear hg4 hm4 ca
  go_wp2_with fail
  obtain ⟨q1, q2, q3⟩ := HW.out.fin hlt (.int .i64 0) (.string ⟨#[]⟩)
  exact bodyPost_ret (results_cell_row (p := 4) (ty := 56) rfl _ _ (w.heap.size + 1) 56 _ (0, 0) _ rfl q1 Tryz.underlying56 rfl (by kernel_rfl)) rfl ⟨fun _ => rfl, fun h0 => absurd rfl h0, q2, q3⟩
set_option maxRecDepth 20000 in
set_option maxHeartbeats 2000000 in
theorem push_no (op : Int) (a b c n k : Nat) (ha : a < 8) (ra : Nat) {w : World} {B fuel : Nat} {m : Mc} {v : Value} (h : Mb w B m v fuel) (hr : m.R[a]! = ra) (hp : m.sn = 8) :
    Calls Tryz.prog 142 #[.pointer (some ⟨B, 0, none⟩), .agg #[.int .i64 op, .int .i64 (a : Int), .int .i64 (b : Int), .int .i64 (c : Int), .int .i64 (n : Int), .int .u64 (k : Int)]] w (APost w B v fuel (2, m, 0, ByteArray.empty)) := by
  have HB := hide h
  have hlt := h.lt
  have hne : ¬ B = w.heap.size := by omega
  have hne1 : ¬ B = w.heap.size + 1 := by omega
  have za := h.z
  have hai : (a : Int) < 8 := by omega
  have ca := h.cell (h.l8.gR v fuel a ha)
  rw [hr] at ca
  have HE : Hid (DoE w (W2 w op a b c (n : Int) k) B m v fuel) := w2_E h
  have HE1 := hide HE.out.drew1
  have HPU := hide (pushU_no HE1.out.mb hp ra)
  go_enter Tryz.func142, Tryz.ntmps142
  go_wp2_with fail
  refine wp_region_held_drew (S := (fun w' => w'.cell? ⟨w.heap.size, 1, none⟩ = some (.int .i64 (a : Int)) ∧ w'.cell? ⟨B, 3 + a, none⟩ = some (.int .u64 (ra : Int)))) (by kernel_rfl) ⟨w2_cell (w := w) (w' := w) rfl _ _ _ 1 _ rfl, Lib.cell?_alloc_some _ (Lib.cell?_alloc_some _ ca)⟩ (fun hH => ?_)
  refine wpAnyH_take (i := 0) (v := .pointer (some ⟨B, 0, none⟩)) rfl (by kernel_rfl) (by kernel_rfl) (by kernel_rfl) (fun _ _ _ h => h) (Or.inl ⟨by kernel_rfl, fun w9 hS => by kernel_rfl⟩) hH ?_
  simp only [Act.put, List.setIfInBounds_toArray]
  refine wpAnyH_take (i := 1) (v := .pointer (some ⟨B, 0, none⟩)) rfl (by kernel_rfl) (by kernel_rfl) (by kernel_rfl) (fun _ _ _ h => h) (Or.inl ⟨by kernel_rfl, fun w9 hS => by kernel_rfl⟩) hH ?_
  simp only [Act.put]
  refine wpAnyH_take (i := 2) (v := .pointer (some ⟨B, 11, none⟩)) rfl (by kernel_rfl) (by kernel_rfl) (by kernel_rfl) (fun _ _ _ h => h) (Or.inl ⟨by kernel_rfl, fun w9 hS => by kernel_rfl⟩) hH ?_
  simp only [Act.put]
  refine wpAnyH_take (i := 3) (v := .pointer (some ⟨B, 0, none⟩)) rfl (by kernel_rfl) (by kernel_rfl) (by kernel_rfl) (fun _ _ _ h => h) (Or.inl ⟨by kernel_rfl, fun w9 hS => by kernel_rfl⟩) hH ?_
  simp only [Act.put]
  refine wpAnyH_take (i := 4) (v := .pointer (some ⟨w.heap.size, 1, none⟩)) rfl (by kernel_rfl) (by kernel_rfl) (by kernel_rfl) (fun _ _ _ h => h) (Or.inl ⟨by kernel_rfl, fun w9 hS => by kernel_rfl⟩) hH ?_
  simp only [Act.put]
  refine wpAnyH_take (i := 5) (v := .int .i64 (a : Int)) rfl (by kernel_rfl) (by kernel_rfl) (by kernel_rfl) (fun _ _ _ h => h) (Or.inl ⟨by kernel_rfl, fun w9 hS => by have s1 := hS.1; go_simp⟩) hH ?_
  simp only [Act.put]
  refine wpAnyH_take (i := 6) (v := .pointer (some ⟨B, 0, none⟩)) rfl (by kernel_rfl) (by kernel_rfl) (by kernel_rfl) (fun _ _ _ h => h) (Or.inl ⟨by kernel_rfl, fun w9 hS => by kernel_rfl⟩) hH ?_
  simp only [Act.put]
  refine wpAnyH_take (i := 7) (v := .pointer (some ⟨B, 3, none⟩)) rfl (by kernel_rfl) (by kernel_rfl) (by kernel_rfl) (fun _ _ _ h => h) (Or.inl ⟨by kernel_rfl, fun w9 hS => by kernel_rfl⟩) hH ?_
  simp only [Act.put]
  refine wpAnyH_take (i := 8) (v := .pointer (some ⟨B, 3 + a, none⟩)) rfl (by kernel_rfl) (by kernel_rfl) (by kernel_rfl) (fun _ _ _ h => h) (Or.inl ⟨by kernel_rfl, fun w9 hS => by go_simp⟩) hH ?_
  simp only [Act.put]
  refine wpAnyH_take (i := 9) (v := .int .u64 (ra : Int)) rfl (by kernel_rfl) (by kernel_rfl) (by kernel_rfl) (fun _ _ _ h => h) (Or.inl ⟨by kernel_rfl, fun w9 hS => by have s2 := hS.2; go_simp⟩) hH ?_
  simp only [Act.put]
  refine wpAnyH_ready (rs := [10]) (by kernel_rfl) (by simp) ?_
  refine AllReadyH.cons rfl (fun K hK => ?_) AllReadyH.nil
  go_simp
  refine HPU.out.mono ?_
  rintro e w4 ⟨he, rfl⟩
  unfold Traps at he
  subst he
  exact ⟨rfl, fun h0 => absurd (show (2 : Nat) = 0 from h0) (by decide), fun _ => rfl, HE1.out.mb, HE1.out.gr⟩
end Go.Proofs.YtpgehocadohkiaaGreatDoor
end
