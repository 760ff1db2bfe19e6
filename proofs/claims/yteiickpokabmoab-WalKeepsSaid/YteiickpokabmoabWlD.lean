import Derived.Test.YteiickpokabmoabWlC
namespace Go.Proofs.Yteiickpokabmoab
open Go.RowKit Go.Shelf
open Wl (Hd WS Log)

theorem bitsV_lt (b : ByteArray) (p : Nat) : bitsV b p < 18446744073709551616 := by
  unfold bitsV
  have h := Pk.fold8_lt ((rest b p).take 8) ((rest b p).take 8).length (Nat.le_refl _)
  rw [List.take_length] at h
  refine Nat.lt_of_lt_of_le h (Nat.le_trans (Nat.pow_le_pow_right (by decide) (show _ ≤ 8 by simp; omega)) (by decide))
theorem run_idx8 (s : ByteArray) (hs : s.size = 128) (W : World) : (Instr.index 9 (.string s) (.int .i64 8)).run Try.prog W = .ok (.int .u8 ((s.data.toList.getD 8 0).toNat : Int)) W := by
  go_simp
  rfl
set_option maxHeartbeats 1000000 in
theorem parseHead_any (s : ByteArray) (hs : s.size = 128) (w : World) :
    Calls Try.prog 50 #[.string s] w fun e w' => e = .returned (.agg (hdC (Wl.parse s))) ∧ Below w.heap.size w w' := by
  have HD : Hid (hdC (Wl.parse s) = #[.int .u64 (bitsV s 0 : Int), .int .u8 ((s.data.toList.getD 8 0).toNat : Int), .int .i64 ((bitsV (s.extract 9 128) 0 / 4294967296 : Nat) : Int), .int .i64 ((bitsV (s.extract 9 128) 0 % 4294967296 : Nat) : Int)])  := hide (by simp only [Wl.parse, hdC, hs])
  have f1 := fun W => run_idx8 s hs W
  generalize s.data.toList.getD 8 0 = B8 at *
  have hv := bitsV_lt (s.extract 9 128) 0
  have hk1 : bitsK s 0 = 0 := if_neg (by omega)
  have hk2 : bitsK (s.extract 9 128) 0 = 0 := if_neg (by simp; omega)
  generalize hdC (Wl.parse s) = R at *
  have hT : Hid ((s.extract 9 128).size = 119) := hide (by simp; omega)
  have hsl : ∀ W : World, (Instr.slice 9 (.string s) (some (.int .i64 9)) none none).run Try.prog W = .ok (.string (s.extract 9 128)) W := by
    intro W; go_simp
  generalize s.extract 9 128 = T at *
  go_enter Try.func50, Try.ntmps50
  go_wp2_with fail
  refine (read_any s _).mono ?_
  rintro e w1 ⟨rfl, hr1, hb1⟩
  rw [World.size_alloc] at hr1
  have hb1' : Below (w.heap.size + 1) (w.alloc (.cells #[.int .u64 0, .int .u8 0, .int .i64 0, .int .i64 0] 54)) w1 := by rw [World.size_alloc] at hb1; exact hb1
  clear hb1
  go_wp2_with fail
  refine (rbits_any hr1 (Nat.zero_le _) (by omega)).mono ?_
  intro e w2 hF
  obtain ⟨rfl, hR⟩ := hF.ok hk1
  have hb2 : Below (w.heap.size + 1) (w.alloc (.cells #[.int .u64 0, .int .u8 0, .int .i64 0, .int .i64 0] 54)) w2 := hb1'.grown hF.grown (by simpa using hb1'.size) (fun k hk => by injection hk with hk; omega)
  clear hF hR hr1 hb1'
  go_wp2_with fail
  refine (read_any T _).mono ?_
  rintro e w3 ⟨rfl, hr3, hb3⟩
  have hb3' : Below (w.heap.size + 1) (w.alloc (.cells #[.int .u64 0, .int .u8 0, .int .i64 0, .int .i64 0] 54)) w3 := hb2.trans (hb3.mono (by simpa using hb2.size))
  have hl2 : w.heap.size + 1 ≤ w2.heap.size := by simpa using hb2.size
  clear hb3 hb2 hsl
  go_wp2_with fail
  refine (rbits_any hr3 (Nat.zero_le _) (by have := hT.out; omega)).mono ?_
  intro e w4 hF
  obtain ⟨rfl, hR⟩ := hF.ok hk2
  have hb4 : Below (w.heap.size + 1) (w.alloc (.cells #[.int .u64 0, .int .u8 0, .int .i64 0, .int .i64 0] 54)) w4 := hb3'.grown hF.grown (by simpa using hb3'.size) (fun k hk => by injection hk with hk; omega)
  have hblk : w4.heap[w.heap.size]? = some (.cells #[.int .u64 0, .int .u8 0, .int .i64 0, .int .i64 0] 54 (0, 0)) := (hb4.block _ (by omega)).trans (heap_alloc_new w _)
  have HB4 : Hid (Below w.heap.size w w4) := hide ((below_alloc w _).trans (hb4.mono (by omega)))
  have HBK := hide hblk
  clear hF hR hr3 hb3' hb4 hk1 hk2
  generalize bitsV T 0 = V at *
  generalize bitsV s 0 = U at *
  have z4 : ∀ k, w4.frozen? ⟨w.heap.size, k, none⟩ = false := fun k => by simp [World.frozen?, hblk]
  have c0 : w4.cell? ⟨w.heap.size, 0, none⟩ = some (.int .u64 0) := by simp [World.cell?, hblk]
  have c1 : w4.cell? ⟨w.heap.size, 1, none⟩ = some (.int .u8 0) := by simp [World.cell?, hblk]
  have c2 : w4.cell? ⟨w.heap.size, 2, none⟩ = some (.int .i64 0) := by simp [World.cell?, hblk]
  have c3 : w4.cell? ⟨w.heap.size, 3, none⟩ = some (.int .i64 0) := by simp [World.cell?, hblk]
  have hlt4 : w.heap.size < w4.heap.size := lt_of_block hblk
  clear hblk
  have hq : (V : Int) / 4294967296 < 4294967296 := by omega
  have hq0 : 0 ≤ (V : Int) / 4294967296 := by omega
  have hr : (V : Int) % 4294967296 < 4294967296 := by omega
  have hr0 : 0 ≤ (V : Int) % 4294967296 := by omega
  have HX : Hid (((V / 4294967296 : Nat) : Int) = (V : Int) / 4294967296 ∧ ((V % 4294967296 : Nat) : Int) = (V : Int) % 4294967296) := hide ⟨by simp, by simp⟩
  rw [HX.out.1, HX.out.2] at HD
  clear hv hl2 HX
  go_wp2_with fail
  exact bodyPost_ret (v := .agg #[.int .u64 (U : Int), .int .u8 (B8.toNat : Int), .int .i64 ((V : Int) / 4294967296), .int .i64 ((V : Int) % 4294967296)]) (by simp [results, Try.results50, go_sem, c0, c1, c2, c3]) rfl ⟨by rw [HD.out], (((HB4.out.setCell (Nat.le_refl _) _).setCell (Nat.le_refl _) _).setCell (Nat.le_refl _) _).setCell (Nat.le_refl _) _⟩
set_option maxHeartbeats 1000000 in
theorem mayBe_any (h : Hd) (h2 : h.sn < 4294967296) (h3 : h.lg < 4294967296) (room : Nat) (w : World) :
    Calls Try.prog 51 #[.agg (hdC h), .int .i64 (room : Int)] w fun e w' => e = .returned (.bool (decide (Wl.MayBe h room))) ∧ Below w.heap.size w w' := by
  have HM : Hid (Wl.MayBe h room ↔ 1 ≤ h.num ∧ h.num ≤ 1099511627776 ∧ h.half < 2 ∧ h.sn ≤ 17000 ∧ h.used ≤ room) := hide Iff.rfl
  have HU := fun W => hide (used_any h (by omega) (by omega) W)
  obtain ⟨num, half, sn, lg⟩ := h
  simp only [hdC] at *
  have HD : Hid (decide (Wl.MayBe ⟨num, half, sn, lg⟩ room) = decide (1 ≤ num ∧ num ≤ 1099511627776 ∧ half < 2 ∧ sn ≤ 17000 ∧ Hd.used ⟨num, half, sn, lg⟩ ≤ room)) := hide (decide_eq_decide.mpr HM.out)
  generalize decide (Wl.MayBe ⟨num, half, sn, lg⟩ room) = T at *
  clear HM
  by_cases b1 : 1 ≤ num
  case neg =>
    have HF : Hid (T = false) := hide (by rw [HD.out]; exact decide_eq_false fun k => b1 k.1)
    have c : decide ((1 : Int) ≤ (num : Int)) = false := by simp; omega
    clear HD b1
    go_enter Try.func51, Try.ntmps51
    go_wp2_with fail
    go_ret
    exact ⟨by rw [HF.out]; rfl, below_alloc _ _⟩
  have c1 : decide ((1 : Int) ≤ (num : Int)) = true := by simp; omega
  by_cases b2 : num ≤ 1099511627776
  case neg =>
    have HF : Hid (T = false) := hide (by rw [HD.out]; exact decide_eq_false fun k => b2 k.2.1)
    have c : decide ((num : Int) ≤ 1099511627776) = false := by simp; omega
    clear HD b1 b2
    go_enter Try.func51, Try.ntmps51
    go_wp2_with fail
    go_ret
    exact ⟨by rw [HF.out]; rfl, below_alloc _ _⟩
  have c2 : decide ((num : Int) ≤ 1099511627776) = true := by simp; omega
  by_cases b3 : half < 2
  case neg =>
    have HF : Hid (T = false) := hide (by rw [HD.out]; exact decide_eq_false fun k => b3 k.2.2.1)
    have c : decide ((half : Int) < 2) = false := by simp; omega
    clear HD b1 b2 b3
    go_enter Try.func51, Try.ntmps51
    go_wp2_with fail
    go_ret
    exact ⟨by rw [HF.out]; rfl, below_alloc _ _⟩
  have c3 : decide ((half : Int) < 2) = true := by simp; omega
  by_cases b4 : sn ≤ 17000
  case neg =>
    have HF : Hid (T = false) := hide (by rw [HD.out]; exact decide_eq_false fun k => b4 k.2.2.2.1)
    have c : decide ((sn : Int) ≤ 17000) = false := by simp; omega
    clear HD b1 b2 b3 b4
    go_enter Try.func51, Try.ntmps51
    go_wp2_with fail
    go_ret
    exact ⟨by rw [HF.out]; rfl, below_alloc _ _⟩
  have c4 : decide ((sn : Int) ≤ 17000) = true := by simp; omega
  have HF : Hid (T = decide (Hd.used ⟨num, half, sn, lg⟩ ≤ room)) := hide (by rw [HD.out, decide_eq_decide]; omega)
  generalize Hd.used ⟨num, half, sn, lg⟩ = U at *
  clear HD b1 b2 b3 b4
  go_enter Try.func51, Try.ntmps51
  go_wp2_with fail
  refine (HU _).out.mono ?_
  rintro e w' ⟨rfl, rfl⟩
  go_wp2_with fail
  go_ret
  exact ⟨by rw [HF.out]; rfl, (below_alloc _ _).alloc (by simp) _⟩
theorem cut_any (g n k : Nat) (h : (k + 1) * 128 ≤ n) (hn : n ≤ 200000) (w : World) :
    Calls Try.prog 60 #[.slice (some ⟨g, 0, none⟩) n n, .int .i64 (k : Int)] w fun e w' => e = .returned (.slice (some ⟨g, k * 128, none⟩) 128 128) ∧ w' = w := by
  have h1 : ((k : Int) + 1) * 128 ≤ (n : Int) := by omega
  go_enter Try.func60, Try.ntmps60
  go_wp2
  go_ret
  have he : (k + 1) * 128 - k * 128 = 128 := by omega
  exact ⟨by show Ending.returned (.slice _ ((k + 1) * 128 - k * 128) ((k + 1) * 128 - k * 128)) = _; rw [he], rfl⟩
end Go.Proofs.Yteiickpokabmoab
