import Derived.Test.YtpgehocadohkiaaGreatDoorMgBC

section
namespace Go.Proofs.YtpgehocadohkiaaGreatDoor
open Go.RowKit Go.Shelf

/-- the library's tables, and that the machine's block is none of them -/
structure Env (w : World) (B : Nat) : Prop where
  t64 : Tab64 w
  t10 : Tab10 w
  n64 : B ≠ 4
  n10 : B ≠ 0
theorem tab64_grown {w w' : World} {B : Nat} (h : Tab64 w) (hn : B ≠ 4) (g : w.grownBy w' (some B)) : Tab64 w' := fun j hj => g.cell (h j hj) (by simp; omega)
theorem glob10 : Tryz.prog.globalNamed "internal/strconv.uint64pow10" = some 0 := by kernel_rfl
theorem tab10_grown {w w' : World} {B : Nat} (h : Tab10 w) (hn : B ≠ 0) (g : w.grownBy w' (some B)) : Tab10 w' := by
  unfold Tab10 Lib.TabIs World.var? at *
  simp only [glob10, Option.bind_some] at h ⊢
  have hlt : 0 < w.heap.size := by
    rcases Nat.lt_or_ge 0 w.heap.size with h' | h'
    · exact h'
    · rw [Array.getElem?_eq_none h'] at h; simp at h
  rw [g.block 0 hlt (by simp; omega)]
  exact h
theorem Env.grown {w w' : World} {B : Nat} (h : Env w B) (g : w.grownBy w' (some B)) : Env w' B := ⟨tab64_grown h.t64 h.n64 g, tab10_grown h.t10 h.n10 g, h.n64, h.n10⟩
set_option maxRecDepth 20000 in
set_option maxHeartbeats 2000000 in
theorem pop_ok (op : Int) (a b c n k : Nat) (ha : a < 8) (ra : Nat) {w : World} {B fuel : Nat} {m : Mc} {v : Value} (h : Mb w B m v fuel) (hr : m.R[a]! = ra) (hp : m.sn ≤ 8) (h0 : m.sn ≠ 0) :
    Calls Tryz.prog 143 #[.pointer (some ⟨B, 0, none⟩), .agg #[.int .i64 op, .int .i64 (a : Int), .int .i64 (b : Int), .int .i64 (c : Int), .int .i64 (n : Int), .int .u64 (k : Int)]] w (APost w B v fuel (0, { m with sn := m.sn - 1, R := m.R.set a m.S[m.sn - 1]! }, 0, ByteArray.empty)) := by
  have HB := hide h
  have hlt := h.lt
  have hne : ¬ B = w.heap.size := by omega
  have hne1 : ¬ B = w.heap.size + 1 := by omega
  have za := h.z
  have hai : (a : Int) < 8 := by omega
  have ca := h.cell (h.l8.gR v fuel a ha)
  rw [hr] at ca
  have HE : Hid (DoE w (W2 w op a b c (n : Int) k) B m v fuel) := w2_E h
  have HE1 := hide HE.out.drew1
  obtain ⟨y, hy⟩ : ∃ y, m.S[m.sn - 1]! = y := ⟨_, rfl⟩
  have HPU := hide (popU_ok HE1.out.mb hp h0)
  rw [hy] at HPU ⊢
  go_enter Tryz.func143, Tryz.ntmps143
  go_wp2_with fail
  go_region_held3 (fun w' => w'.cell? ⟨w.heap.size, 1, none⟩ = some (.int .i64 (a : Int))) (first | exact k3 | exact k1 | go_keep) (first | (go_at_call 179; refine HPU.out.mono ?_; rintro e w4 ⟨rfl, hm4, hg4⟩; have k1 : w4.cell? ⟨w.heap.size, 1, none⟩ = some (.int .i64 (a : Int)) := hg4.cell (a := ⟨w.heap.size, 1, none⟩) (w2_cell (w := w) (w' := w) rfl _ _ _ 1 _ rfl) (by simp; omega); have k3 : (w4.setCell ⟨B, 3 + a, none⟩ (.int .u64 (y : Int))).cell? ⟨w.heap.size, 1, none⟩ = some (.int .i64 (a : Int)) := (i_grown_set w4 B (3 + a) (.int .u64 (y : Int))).cell (a := ⟨w.heap.size, 1, none⟩) k1 (by simp; omega); have ca4 : w4.cell? ⟨B, 3 + a, none⟩ = some (.int .u64 (ra : Int)) := (by rw [← hr]; exact hm4.cell (hm4.l8.gR v fuel a ha)); have z4 := hm4.z))
  have HW := hide ((HE1.out.grow hlt hg4 hm4).set hlt (hm4.l8.gRs v fuel a y ha) (hm4.l8.setR a y))
  generalize w4.setCell ⟨B, 3 + a, none⟩ (.int .u64 (y : Int)) = w5 at *
  obtain ⟨r0, r1, rf⟩ := HW.out.act
  clear hg4 hm4 ca
  go_wp2_with fail
  obtain ⟨q1, q2, q3⟩ := HW.out.fin hlt (.int .i64 0) (.string ⟨#[]⟩)
  exact bodyPost_ret (results_cell_row (p := 4) (ty := 56) rfl _ _ (w.heap.size + 1) 56 _ (0, 0) _ rfl q1 Tryz.underlying56 rfl (by kernel_rfl)) rfl ⟨fun _ => rfl, fun h0 => absurd rfl h0, q2, q3⟩
set_option maxRecDepth 20000 in
set_option maxHeartbeats 2000000 in
theorem pop_no (op : Int) (a b c n k : Nat)  {w : World} {B fuel : Nat} {m : Mc} {v : Value} (h : Mb w B m v fuel) (hp : m.sn = 0) :
    Calls Tryz.prog 143 #[.pointer (some ⟨B, 0, none⟩), .agg #[.int .i64 op, .int .i64 (a : Int), .int .i64 (b : Int), .int .i64 (c : Int), .int .i64 (n : Int), .int .u64 (k : Int)]] w (APost w B v fuel (3, m, 0, ByteArray.empty)) := by
  have HB := hide h
  have hlt := h.lt
  have hne : ¬ B = w.heap.size := by omega
  have hne1 : ¬ B = w.heap.size + 1 := by omega
  have za := h.z
  have HE : Hid (DoE w (W2 w op a b c (n : Int) k) B m v fuel) := w2_E h
  have HE1 := hide HE.out.drew1
  have HPU := hide (popU_no HE1.out.mb hp)
  go_enter Tryz.func143, Tryz.ntmps143
  go_wp2_with fail
  refine wp_region_held_drew (S := fun w' => w'.cell? ⟨w.heap.size, 1, none⟩ = some (.int .i64 (a : Int))) (by kernel_rfl) (w2_cell (w := w) (w' := w) rfl _ _ _ 1 _ rfl) (fun hH => ?_)
  refine wpAnyH_take (i := 0) (v := .pointer (some ⟨B, 0, none⟩)) rfl (by kernel_rfl) (by kernel_rfl) (by kernel_rfl) (fun _ _ _ h => h) (Or.inl ⟨by kernel_rfl, fun w9 hS => by kernel_rfl⟩) hH ?_
  simp only [Act.put, List.setIfInBounds_toArray]
  refine wpAnyH_take (i := 1) (v := .pointer (some ⟨w.heap.size, 1, none⟩)) rfl (by kernel_rfl) (by kernel_rfl) (by kernel_rfl) (fun _ _ _ h => h) (Or.inl ⟨by kernel_rfl, fun w9 hS => by kernel_rfl⟩) hH ?_
  simp only [Act.put]
  refine wpAnyH_take (i := 2) (v := .int .i64 (a : Int)) rfl (by kernel_rfl) (by kernel_rfl) (by kernel_rfl) (fun _ _ _ h => h) (Or.inl ⟨by kernel_rfl, fun w9 hS => by go_simp⟩) hH ?_
  simp only [Act.put]
  refine wpAnyH_take (i := 3) (v := .pointer (some ⟨B, 0, none⟩)) rfl (by kernel_rfl) (by kernel_rfl) (by kernel_rfl) (fun _ _ _ h => h) (Or.inl ⟨by kernel_rfl, fun w9 hS => by kernel_rfl⟩) hH ?_
  simp only [Act.put]
  refine wpAnyH_take (i := 4) (v := .pointer (some ⟨B, 0, none⟩)) rfl (by kernel_rfl) (by kernel_rfl) (by kernel_rfl) (fun _ _ _ h => h) (Or.inl ⟨by kernel_rfl, fun w9 hS => by kernel_rfl⟩) hH ?_
  simp only [Act.put]
  refine wpAnyH_take (i := 5) (v := .pointer (some ⟨B, 11, none⟩)) rfl (by kernel_rfl) (by kernel_rfl) (by kernel_rfl) (fun _ _ _ h => h) (Or.inl ⟨by kernel_rfl, fun w9 hS => by kernel_rfl⟩) hH ?_
  simp only [Act.put]
  refine wpAnyH_take (i := 7) (v := .pointer (some ⟨B, 0, none⟩)) rfl (by kernel_rfl) (by kernel_rfl) (by kernel_rfl) (fun _ _ _ h => h) (Or.inl ⟨by kernel_rfl, fun w9 hS => by kernel_rfl⟩) hH ?_
  simp only [Act.put]
  refine wpAnyH_take (i := 8) (v := .pointer (some ⟨B, 3, none⟩)) rfl (by kernel_rfl) (by kernel_rfl) (by kernel_rfl) (fun _ _ _ h => h) (Or.inl ⟨by kernel_rfl, fun w9 hS => by kernel_rfl⟩) hH ?_
  simp only [Act.put]
  refine wpAnyH_ready (rs := [6]) (by kernel_rfl) (by simp) ?_
  refine AllReadyH.cons rfl (fun K hK => ?_) AllReadyH.nil
  go_simp
  refine HPU.out.mono ?_
  rintro e w4 ⟨he, rfl⟩
  unfold Traps at he
  subst he
  exact ⟨rfl, fun h0 => absurd (show (3 : Nat) = 0 from h0) (by decide), fun _ => rfl, HE1.out.mb, HE1.out.gr⟩
set_option maxRecDepth 20000 in
set_option maxHeartbeats 2000000 in
theorem emit_ok (op : Int) (a b c n k : Nat) (ha : a < 8) (ra : Nat) (h64 : ra < 18446744073709551616) {w : World} {B fuel : Nat} {m : Mc} {v : Value} (h : Mb w B m v fuel) (hr : m.R[a]! = ra) (hp : m.ch < 32) (hE : Env w B) :
    Calls Tryz.prog 144 #[.pointer (some ⟨B, 0, none⟩), .agg #[.int .i64 op, .int .i64 (a : Int), .int .i64 (b : Int), .int .i64 (c : Int), .int .i64 (n : Int), .int .u64 (k : Int)]] w (APost w B v fuel (0, { m with ch := m.ch + 1 }, 1, textB ra)) := by
  have HB := hide h
  have hlt := h.lt
  have hne : ¬ B = w.heap.size := by omega
  have hne1 : ¬ B = w.heap.size + 1 := by omega
  have za := h.z
  have hai : (a : Int) < 8 := by omega
  have ca := h.cell (h.l8.gR v fuel a ha)
  rw [hr] at ca
  have cc := h.cell (h.l8.g_ch v fuel)
  have H1 := h.set (h.l8.s_ch v fuel (m.ch + 1)) (h.l8.of rfl rfl rfl)
  have ca1 := H1.cell (H1.l8.gR v fuel a ha)
  rw [hr] at ca1
  have HF := fin2 H1 (i_grown_set w B 30 _) (size_set w B 30 _) (.cells #[.int .i64 op, .int .i64 (a : Int), .int .i64 (b : Int), .int .i64 (c : Int), .int .i64 (n : Int), .int .u64 (k : Int)] 71) (.int .i64 0) (.string ⟨#[]⟩)
  have HE1 := hide (hE.grown (i_grown_drew HF.2.2))
  have HD := hide (DoE.drew1 ⟨HF.1, HF.2.1, HF.2.2⟩)
  have k1 := w2_cell (size_set w B 30 (.int .i64 ((m.ch + 1 : Nat) : Int))) #[.int .i64 op, .int .i64 (a : Int), .int .i64 (b : Int), .int .i64 (c : Int), .int .i64 (n : Int), .int .u64 (k : Int)] 71 (.cells #[.int .i64 0, .string ⟨#[]⟩] 56) 1 _ rfl
  have k2 := HF.2.1.cell (HF.2.1.l8.gR v fuel a ha)
  rw [hr] at k2
  clear HF H1
  have HTX := hide (text_any ra h64)
  have hne2 : ¬ w.heap.size + 1 = B := by omega
  obtain ⟨q, hq⟩ : ∃ q, m.ch = q := ⟨_, rfl⟩
  simp only [hq] at cc hp HE1 HD k1 k2 ca1 ⊢
  have hb : ((q : Int) == 32) = false := by rw [beq_eq_false_iff_ne]; omega
  generalize textB ra = tx at *
  go_enter Tryz.func144, Tryz.ntmps144
  go_wp2_with fail
  go_region_held3 (fun w' => w'.cell? ⟨w.heap.size, 1, none⟩ = some (.int .i64 (a : Int)) ∧ w'.cell? ⟨B, 3 + a, none⟩ = some (.int .u64 (ra : Int))) (first | exact ⟨k1, k2⟩ | exact ⟨k5, k6⟩ | go_keep) (first | (go_at_call 71; refine (HTX.out _ HE1.out.t64 HE1.out.t10).mono ?_; rintro e w4 ⟨rfl, hb4⟩; have HW := hide (HD.out.grow hlt (i_grown_below hb4 _) (HD.out.mb.below hb4 HD.out.mb.lt)); have k5 : w4.cell? ⟨w.heap.size, 1, none⟩ = some (.int .i64 (a : Int)) := (hb4.cell (p := ⟨w.heap.size, 1, none⟩) (Nat.lt_trans (Nat.lt_succ_self _) (lt_of_block HD.out.rz))).trans k1; have k6 : w4.cell? ⟨B, 3 + a, none⟩ = some (.int .u64 (ra : Int)) := (hb4.cell (p := ⟨B, 3 + a, none⟩) HD.out.mb.lt).trans k2; obtain ⟨r0, r1, rf⟩ := HW.out.act))
  go_wp2_with fail
  obtain ⟨q1, q2, q3⟩ := HW.out.fin hlt (.int .i64 1) (.string tx)
  exact bodyPost_ret (results_cell_row (p := 4) (ty := 56) rfl _ _ (w.heap.size + 1) 56 _ (0, 0) _ rfl q1 Tryz.underlying56 rfl (by kernel_rfl)) rfl ⟨fun _ => rfl, fun h0 => absurd rfl h0, q2, q3⟩
set_option maxRecDepth 20000 in
set_option maxHeartbeats 2000000 in
theorem emit_no (op : Int) (a b c n k : Nat)  {w : World} {B fuel : Nat} {m : Mc} {v : Value} (h : Mb w B m v fuel) (hp : m.ch = 32) :
    Calls Tryz.prog 144 #[.pointer (some ⟨B, 0, none⟩), .agg #[.int .i64 op, .int .i64 (a : Int), .int .i64 (b : Int), .int .i64 (c : Int), .int .i64 (n : Int), .int .u64 (k : Int)]] w (APost w B v fuel (5, m, 0, ByteArray.empty)) := by
  have HB := hide h
  have hlt := h.lt
  have hne : ¬ B = w.heap.size := by omega
  have hne1 : ¬ B = w.heap.size + 1 := by omega
  have za := h.z
  have HE : Hid (DoE w (W2 w op a b c (n : Int) k) B m v fuel) := w2_E h
  have HE1 := hide HE.out.drew1
  have cc := h.cell (h.l8.g_ch v fuel)
  rw [hp] at cc
  go_enter Tryz.func144, Tryz.ntmps144
  go_wp2_with fail
  exact ⟨rfl, fun h0 => absurd (show (5 : Nat) = 0 from h0) (by decide), fun _ => rfl, HE.out.mb, HE.out.gr⟩
set_option maxRecDepth 20000 in
set_option maxHeartbeats 2000000 in
theorem write_ok (op : Int) (a b c n k : Nat) (ha : a < 8) (ra : Nat) (h64 : ra < 18446744073709551616) {w : World} {B fuel : Nat} {m : Mc} {v : Value} (h : Mb w B m v fuel) (hr : m.R[a]! = ra) (hp : m.pc < 16) (hE : Env w B) :
    Calls Tryz.prog 145 #[.pointer (some ⟨B, 0, none⟩), .agg #[.int .i64 op, .int .i64 (a : Int), .int .i64 (b : Int), .int .i64 (c : Int), .int .i64 (n : Int), .int .u64 (k : Int)]] w (APost w B v fuel (0, { m with pc := m.pc + 1 }, 2, textB ra)) := by
  have HB := hide h
  have hlt := h.lt
  have hne : ¬ B = w.heap.size := by omega
  have hne1 : ¬ B = w.heap.size + 1 := by omega
  have za := h.z
  have hai : (a : Int) < 8 := by omega
  have ca := h.cell (h.l8.gR v fuel a ha)
  rw [hr] at ca
  have cc := h.cell (h.l8.g_pc v fuel)
  have H1 := h.set (h.l8.s_pc v fuel (m.pc + 1)) (h.l8.of rfl rfl rfl)
  have ca1 := H1.cell (H1.l8.gR v fuel a ha)
  rw [hr] at ca1
  have HF := fin2 H1 (i_grown_set w B 31 _) (size_set w B 31 _) (.cells #[.int .i64 op, .int .i64 (a : Int), .int .i64 (b : Int), .int .i64 (c : Int), .int .i64 (n : Int), .int .u64 (k : Int)] 71) (.int .i64 0) (.string ⟨#[]⟩)
  have HE1 := hide (hE.grown (i_grown_drew HF.2.2))
  have HD := hide (DoE.drew1 ⟨HF.1, HF.2.1, HF.2.2⟩)
  have k1 := w2_cell (size_set w B 31 (.int .i64 ((m.pc + 1 : Nat) : Int))) #[.int .i64 op, .int .i64 (a : Int), .int .i64 (b : Int), .int .i64 (c : Int), .int .i64 (n : Int), .int .u64 (k : Int)] 71 (.cells #[.int .i64 0, .string ⟨#[]⟩] 56) 1 _ rfl
  have k2 := HF.2.1.cell (HF.2.1.l8.gR v fuel a ha)
  rw [hr] at k2
  clear HF H1
  have HTX := hide (text_any ra h64)
  have hne2 : ¬ w.heap.size + 1 = B := by omega
  obtain ⟨q, hq⟩ : ∃ q, m.pc = q := ⟨_, rfl⟩
  simp only [hq] at cc hp HE1 HD k1 k2 ca1 ⊢
  have hb : ((q : Int) == 16) = false := by rw [beq_eq_false_iff_ne]; omega
  generalize textB ra = tx at *
  go_enter Tryz.func145, Tryz.ntmps145
  go_wp2_with fail
  go_region_held3 (fun w' => w'.cell? ⟨w.heap.size, 1, none⟩ = some (.int .i64 (a : Int)) ∧ w'.cell? ⟨B, 3 + a, none⟩ = some (.int .u64 (ra : Int))) (first | exact ⟨k1, k2⟩ | exact ⟨k5, k6⟩ | go_keep) (first | (go_at_call 71; refine (HTX.out _ HE1.out.t64 HE1.out.t10).mono ?_; rintro e w4 ⟨rfl, hb4⟩; have HW := hide (HD.out.grow hlt (i_grown_below hb4 _) (HD.out.mb.below hb4 HD.out.mb.lt)); have k5 : w4.cell? ⟨w.heap.size, 1, none⟩ = some (.int .i64 (a : Int)) := (hb4.cell (p := ⟨w.heap.size, 1, none⟩) (Nat.lt_trans (Nat.lt_succ_self _) (lt_of_block HD.out.rz))).trans k1; have k6 : w4.cell? ⟨B, 3 + a, none⟩ = some (.int .u64 (ra : Int)) := (hb4.cell (p := ⟨B, 3 + a, none⟩) HD.out.mb.lt).trans k2; obtain ⟨r0, r1, rf⟩ := HW.out.act))
  go_wp2_with fail
  obtain ⟨q1, q2, q3⟩ := HW.out.fin hlt (.int .i64 2) (.string tx)
  exact bodyPost_ret (results_cell_row (p := 4) (ty := 56) rfl _ _ (w.heap.size + 1) 56 _ (0, 0) _ rfl q1 Tryz.underlying56 rfl (by kernel_rfl)) rfl ⟨fun _ => rfl, fun h0 => absurd rfl h0, q2, q3⟩
set_option maxRecDepth 20000 in
set_option maxHeartbeats 2000000 in
theorem write_no (op : Int) (a b c n k : Nat)  {w : World} {B fuel : Nat} {m : Mc} {v : Value} (h : Mb w B m v fuel) (hp : m.pc = 16) :
    Calls Tryz.prog 145 #[.pointer (some ⟨B, 0, none⟩), .agg #[.int .i64 op, .int .i64 (a : Int), .int .i64 (b : Int), .int .i64 (c : Int), .int .i64 (n : Int), .int .u64 (k : Int)]] w (APost w B v fuel (6, m, 0, ByteArray.empty)) := by
  have HB := hide h
  have hlt := h.lt
  have hne : ¬ B = w.heap.size := by omega
  have hne1 : ¬ B = w.heap.size + 1 := by omega
  have za := h.z
  have HE : Hid (DoE w (W2 w op a b c (n : Int) k) B m v fuel) := w2_E h
  have HE1 := hide HE.out.drew1
  have cc := h.cell (h.l8.g_pc v fuel)
  rw [hp] at cc
  go_enter Tryz.func145, Tryz.ntmps145
  go_wp2_with fail
  exact ⟨rfl, fun h0 => absurd (show (6 : Nat) = 0 from h0) (by decide), fun _ => rfl, HE.out.mb, HE.out.gr⟩
end Go.Proofs.YtpgehocadohkiaaGreatDoor
end
