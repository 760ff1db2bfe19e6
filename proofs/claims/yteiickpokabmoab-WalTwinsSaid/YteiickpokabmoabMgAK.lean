import Derived.Test.YteiickpokabmoabMgAJ
import Derived.Deep.OwnRows

section
namespace Go.Proofs.Yteiickpokabmoab
open Go.RowKit
open Wl (Hd WS Log)

def hdC (h : Hd) : Array Value := #[.int .u64 (h.num : Int), .int .u8 (h.half : Int), .int .i64 (h.sn : Int), .int .i64 (h.lg : Int)]
theorem tdiv_hs {n : Nat} (h : 0 < n) : Int.tdiv ((n : Int) - 2) 2 = (Wl.hs n : Int) := by
  unfold Wl.hs
  by_cases h2 : 2 ≤ n
  · obtain ⟨m, rfl⟩ : ∃ m, n = m + 2 := ⟨n - 2, by omega⟩
    have : ((m + 2 : Nat) : Int) - 2 = (m : Int) := by omega
    rw [this, Nat.add_sub_cancel]; exact (Int.ofNat_tdiv m 2).symm
  · obtain rfl : n = 1 := by omega
    rfl
theorem hs_le (n : Nat) (h : n ≤ 1026) : Wl.hs n ≤ 512 := by unfold Wl.hs; omega
theorem halfSectors_any {base : Nat} {w : World} {b : Nat} {F : Nat → Prop} {d : D.DS} (h : D.Dk base w b F d) :
    Calls Try.prog 39 #[.pointer (some ⟨b, 0, none⟩)] w fun e w' => e = .returned (.int .i64 (Wl.hs d.S.length : Int)) ∧ w' = w := by
  have HS := hide (D.size_any h)
  have h0 := h.ok.s0
  have h1 := h.ok.s1
  have HT := hide (tdiv_hs h0)
  have h3 := hs_le _ h1
  clear h
  go_enter Try.func39, Try.ntmps39
  go_wp2_with fail
  refine HS.out.mono ?_
  rintro e w' ⟨rfl, rfl⟩
  go_wp2_with fail
  go_ret
  exact ⟨by rw [HT.out]; rfl, rfl⟩
theorem halfBytes_any {base : Nat} {w : World} {b : Nat} {F : Nat → Prop} {d : D.DS} (h : D.Dk base w b F d) :
    Calls Try.prog 26 #[.pointer (some ⟨b, 0, none⟩)] w fun e w' => e = .returned (.int .i64 (Wl.hb d.S.length : Int)) ∧ w' = w := by
  have HS := hide (halfSectors_any h)
  have h3 := hs_le _ h.ok.s1
  have HB : Hid ((Wl.hs d.S.length : Int) * 128 = (Wl.hb d.S.length : Int)) := hide (by unfold Wl.hb; omega)
  clear h
  go_enter Try.func26, Try.ntmps26
  go_wp2_with fail
  refine HS.out.mono ?_
  rintro e w' ⟨rfl, rfl⟩
  go_wp2_with fail
  go_ret
  exact ⟨by rw [HB.out]; rfl, rfl⟩
theorem firstSector_any {base : Nat} {w : World} {b : Nat} {F : Nat → Prop} {d : D.DS} (h : D.Dk base w b F d) {half : Nat} (hh : half < 2) :
    Calls Try.prog 41 #[.pointer (some ⟨b, 0, none⟩), .int .u8 (half : Int)] w fun e w' => e = .returned (.int .i64 (Wl.first d.S.length half : Int)) ∧ w' = w := by
  have HS := hide (halfSectors_any h)
  have h3 := hs_le _ h.ok.s1
  have HB : Hid (2 + (half : Int) * (Wl.hs d.S.length : Int) = (Wl.first d.S.length half : Int)) := hide (by unfold Wl.first; simp)
  have h4 : (half : Int) * (Wl.hs d.S.length : Int) ≤ 1024 := by
    have : half * Wl.hs d.S.length ≤ 2 * 512 := Nat.mul_le_mul (by omega) h3
    have e : ((half * Wl.hs d.S.length : Nat) : Int) = (half : Int) * (Wl.hs d.S.length : Int) := by simp
    omega
  have h5 : 0 ≤ (half : Int) * (Wl.hs d.S.length : Int) := Int.mul_nonneg (by omega) (by omega)
  clear h
  go_enter Try.func41, Try.ntmps41
  go_wp2_with fail
  refine HS.out.mono ?_
  rintro e w' ⟨rfl, rfl⟩
  go_wp2_with fail
  go_ret
  exact ⟨by rw [HB.out]; rfl, rfl⟩
theorem fits_any {base : Nat} {w : World} {b : Nat} {F : Nat → Prop} {d : D.DS} (h : D.Dk base w b F d) :
    Calls Try.prog 42 #[.pointer (some ⟨b, 0, none⟩)] w fun e w' => e = .returned (.bool (decide (Wl.Fits d.S.length))) ∧ w' = w := by
  have HS := hide (halfSectors_any h)
  have HZ := hide (D.size_any h)
  have h3 := hs_le _ h.ok.s1
  have h4 := h.ok.s1
  have HF : Hid (Wl.Fits d.S.length ↔ 1 ≤ Wl.hs d.S.length ∧ Wl.hs d.S.length ≤ 512 ∧ d.S.length = 2 + 2 * Wl.hs d.S.length) := hide Iff.rfl
  clear h
  by_cases h1 : 1 ≤ Wl.hs d.S.length
  · have b1 : decide ((1 : Int) ≤ (Wl.hs d.S.length : Int)) = true := by simp; omega
    have b2 : decide ((Wl.hs d.S.length : Int) ≤ 512) = true := by simp; omega
    have HD : Hid (((d.S.length : Int) == 2 + 2 * (Wl.hs d.S.length : Int)) = decide (Wl.Fits d.S.length)) := hide (by
      rw [Bool.eq_iff_iff]; simp only [beq_iff_eq, decide_eq_true_eq, HF.out]; omega)
    generalize decide (Wl.Fits d.S.length) = T at *
    clear HF h1
    go_enter Try.func42, Try.ntmps42
    go_wp2_with fail
    refine HS.out.mono ?_
    rintro e w' ⟨rfl, rfl⟩
    go_wp2_with fail
    refine HZ.out.mono ?_
    rintro e w' ⟨rfl, rfl⟩
    go_wp2_with fail
    go_ret
    exact ⟨by rw [← HD.out]; rfl, rfl⟩
  · have b1 : decide ((1 : Int) ≤ (Wl.hs d.S.length : Int)) = false := by simp; omega
    rw [decide_eq_false (fun k => h1 (HF.out.mp k).1)]
    clear HF h1
    go_enter Try.func42, Try.ntmps42
    go_wp2_with fail
    refine HS.out.mono ?_
    rintro e w' ⟨rfl, rfl⟩
    go_wp2_with fail
    go_ret
    exact ⟨rfl, rfl⟩
theorem used_any (h : Hd) (h1 : h.sn ≤ 4294967296) (h2 : h.lg ≤ 4294967296) (w : World) : Calls Try.prog 31 #[.agg (hdC h)] w fun e w' => e = .returned (.int .i64 (h.used : Int)) ∧ w' = w.alloc (.cells (hdC h) 54) := by
  obtain ⟨num, half, sn, lg⟩ := h
  simp only [hdC] at *
  go_enter Try.func31, Try.ntmps31
  go_wp2
  go_ret
  exact ⟨rfl, rfl⟩
theorem other_any (h : Hd) (h1 : h.half < 2) (w : World) : Calls Try.prog 40 #[.agg (hdC h)] w fun e w' => e = .returned (.int .u8 ((1 - h.half : Nat) : Int)) ∧ w' = w.alloc (.cells (hdC h) 54) := by
  obtain ⟨num, half, sn, lg⟩ := h
  have HE : Hid ((1 : Int) - (half : Int) = ((1 - half : Nat) : Int)) := hide (by simp only at h1; omega)
  simp only [hdC] at *
  go_enter Try.func40, Try.ntmps40
  go_wp2
  go_ret
  exact ⟨by rw [← HE.out]; rfl, rfl⟩
theorem isLast_any (h : Hd) (w : World) : Calls Try.prog 22 #[.agg (hdC h)] w fun e w' => e = .returned (.bool (decide (1099511627776 ≤ h.num))) ∧ w' = w.alloc (.cells (hdC h) 54) := by
  obtain ⟨num, half, sn, lg⟩ := h
  have HE : Hid (decide ((1099511627776 : Int) ≤ (num : Int)) = decide (1099511627776 ≤ num)) := hide (by rw [decide_eq_decide]; omega)
  simp only [hdC] at *
  go_enter Try.func22, Try.ntmps22
  go_wp2
  go_ret
  exact ⟨by rw [← HE.out]; rfl, rfl⟩
theorem sector_any (h : Hd) (w : World) : Calls Try.prog 45 #[.agg (hdC h)] w fun e w' => e = .returned (.int .i64 ((h.num % 2 : Nat) : Int)) ∧ w' = w.alloc (.cells (hdC h) 54) := by
  obtain ⟨num, half, sn, lg⟩ := h
  have HE : Hid (Int.tmod (num : Int) 2 = ((num % 2 : Nat) : Int)) := hide rfl
  have h5 : num % 2 < 2 := Nat.mod_lt _ (by decide)
  simp only [hdC] at *
  go_enter Try.func45, Try.ntmps45
  go_wp2
  go_ret
  exact ⟨by first | rfl | (rw [← HE.out]; rfl), rfl⟩
theorem frameBytes_any (k : Nat) (hk : k ≤ 140737488351232) (w : World) : Calls Try.prog 32 #[.int .i64 (k : Int)] w fun e w' => e = .returned (.int .i64 (((Pk.enc k).length + k : Nat) : Int)) ∧ Below w.heap.size w w' := by
  have HP := hide (pnum_any k (by omega) w)
  have h10 := Pk.enc_ten (n := k) (by omega)
  go_enter Try.func32, Try.ntmps32
  go_wp2_with fail
  refine HP.out.mono ?_
  rintro e w' ⟨rfl, hb⟩
  go_wp2_with fail
  go_ret
  exact ⟨by simp, hb⟩
theorem made_bc (n : Nat) : madeCells #[Value.int .u8 0] n = (bc (List.replicate n 0)).toArray := by
  apply Array.ext_getElem?
  intro i
  by_cases hi : i < n
  · simp [madeCells, bc, hi, Nat.mod_one]
  · simp [madeCells, bc, hi]
/-- a row of bytes in memory -/
def Bf (w : World) (g : Nat) (l : List UInt8) : Prop := w.heap[g]? = some (.cells (bc l).toArray 5 (0, 0))
theorem sectorsFor_any (n : Nat) (hn : n ≤ 100000) (w : World) : Calls Try.prog 37 #[.int .i64 (n : Int)] w fun e w' => e = .returned (.slice (some ⟨w.heap.size, 0, none⟩) (Wl.up n * 128) (Wl.up n * 128)) ∧ w' = w.alloc (.cells (bc (List.replicate (Wl.up n * 128) 0)).toArray 5) := by
  have hu : Int.tdiv ((n : Int) + 128 - 1) 128 = (Wl.up n : Int) := by
    unfold Wl.up
    rw [Int.tdiv_eq_ediv_of_nonneg (by omega)]; omega
  have hu2 : Int.tdiv ((n : Int) + 127) 128 = (Wl.up n : Int) := by rw [Int.tdiv_eq_ediv_of_nonneg (by omega)]; unfold Wl.up; omega
  have hm : (Wl.up n : Int) * 128 = ((Wl.up n * 128 : Nat) : Int) := by simp
  have hub : Wl.up n * 128 ≤ 200000 := by unfold Wl.up; omega
  have hmk := run_make_row' (P := Try.prog) 59 5 (.int .u8 0) 1 Try.underlying59 Try.infoB rfl .i64 .i64 (Wl.up n * 128) (by omega) (by omega) w
  rw [made_bc] at hmk
  generalize hM : Wl.up n * 128 = M at *
  have h7 : (Wl.up n : Int) * 128 = (M : Int) := by omega
  clear hM hm
  go_enter Try.func37, Try.ntmps37
  go_wp2
  go_ret
  exact ⟨rfl, rfl⟩
end Go.Proofs.Yteiickpokabmoab
end
