import Derived.Test.YtojghjgbnnkldaaMgAJ
import Derived.Deep.OwnRows
import Derived.Test.YtojghjgbnnkldaaMgAA
import Derived.Laws.Concat
import Derived.Laws.BitsAllLaws

section
namespace Go.Proofs.Ytojghjgbnnkldaa
open Go.RowKit
open Wl (Hd WS Log)

def hdC (h : Hd) : Array Value := #[.int .u64 (h.num : Int), .int .u8 (h.half : Int), .int .i64 (h.sn : Int), .int .i64 (h.lg : Int)]
theorem tdiv_hs {n : Nat} (h : 0 < n) : Int.tdiv ((n : Int) - 2) 2 = (Wl.hs n : Int) := by
  unfold Wl.hs
  by_cases h2 : 2 ≤ n
  · obtain ⟨m, rfl⟩ : ∃ m, n = m + 2 := ⟨n - 2, by omega⟩
    have : ((m + 2 : Nat) : Int) - 2 = (m : Int) := by omega
    rw [this, Nat.add_sub_cancel]; exact (Int.ofNat_tdiv m 2).symm
  · obtain rfl : n = 1 := by omega
    rfl
theorem hs_le (n : Nat) (h : n ≤ 1026) : Wl.hs n ≤ 512 := by unfold Wl.hs; omega
theorem halfSectors_any {base : Nat} {w : World} {b : Nat} {F : Nat → Prop} {d : D.DS} (h : D.Dk base w b F d) :
    Calls Try.prog 53 #[.pointer (some ⟨b, 0, none⟩)] w fun e w' => e = .returned (.int .i64 (Wl.hs d.S.length : Int)) ∧ w' = w := by
  have HS := hide (D.size_any h)
  have h0 := h.ok.s0
  have h1 := h.ok.s1
  have HT := hide (tdiv_hs h0)
  have h3 := hs_le _ h1
  clear h
  go_enter Try.func53, Try.ntmps53
  go_wp2_with fail
  refine HS.out.mono ?_
  rintro e w' ⟨rfl, rfl⟩
  go_wp2_with fail
  go_ret
  exact ⟨by rw [HT.out]; rfl, rfl⟩
theorem halfBytes_any {base : Nat} {w : World} {b : Nat} {F : Nat → Prop} {d : D.DS} (h : D.Dk base w b F d) :
    Calls Try.prog 35 #[.pointer (some ⟨b, 0, none⟩)] w fun e w' => e = .returned (.int .i64 (Wl.hb d.S.length : Int)) ∧ w' = w := by
  have HS := hide (halfSectors_any h)
  have h3 := hs_le _ h.ok.s1
  have HB : Hid ((Wl.hs d.S.length : Int) * 128 = (Wl.hb d.S.length : Int)) := hide (by unfold Wl.hb; omega)
  clear h
  go_enter Try.func35, Try.ntmps35
  go_wp2_with fail
  refine HS.out.mono ?_
  rintro e w' ⟨rfl, rfl⟩
  go_wp2_with fail
  go_ret
  exact ⟨by rw [HB.out]; rfl, rfl⟩
theorem firstSector_any {base : Nat} {w : World} {b : Nat} {F : Nat → Prop} {d : D.DS} (h : D.Dk base w b F d) {half : Nat} (hh : half < 2) :
    Calls Try.prog 57 #[.pointer (some ⟨b, 0, none⟩), .int .u8 (half : Int)] w fun e w' => e = .returned (.int .i64 (Wl.first d.S.length half : Int)) ∧ w' = w := by
  have HS := hide (halfSectors_any h)
  have h3 := hs_le _ h.ok.s1
  have HB : Hid (2 + (half : Int) * (Wl.hs d.S.length : Int) = (Wl.first d.S.length half : Int)) := hide (by unfold Wl.first; simp)
  have h4 : (half : Int) * (Wl.hs d.S.length : Int) ≤ 1024 := by
    have : half * Wl.hs d.S.length ≤ 2 * 512 := Nat.mul_le_mul (by omega) h3
    have e : ((half * Wl.hs d.S.length : Nat) : Int) = (half : Int) * (Wl.hs d.S.length : Int) := by simp
    omega
  have h5 : 0 ≤ (half : Int) * (Wl.hs d.S.length : Int) := Int.mul_nonneg (by omega) (by omega)
  clear h
  go_enter Try.func57, Try.ntmps57
  go_wp2_with fail
  refine HS.out.mono ?_
  rintro e w' ⟨rfl, rfl⟩
  go_wp2_with fail
  go_ret
  exact ⟨by rw [HB.out]; rfl, rfl⟩
theorem fits_any {base : Nat} {w : World} {b : Nat} {F : Nat → Prop} {d : D.DS} (h : D.Dk base w b F d) :
    Calls Try.prog 46 #[.pointer (some ⟨b, 0, none⟩)] w fun e w' => e = .returned (.bool (decide (Wl.Fits d.S.length))) ∧ w' = w := by
  have HS := hide (halfSectors_any h)
  have HZ := hide (D.size_any h)
  have h3 := hs_le _ h.ok.s1
  have h4 := h.ok.s1
  have HF : Hid (Wl.Fits d.S.length ↔ 1 ≤ Wl.hs d.S.length ∧ Wl.hs d.S.length ≤ 512 ∧ d.S.length = 2 + 2 * Wl.hs d.S.length) := hide Iff.rfl
  clear h
  by_cases h1 : 1 ≤ Wl.hs d.S.length
  · have b1 : decide ((1 : Int) ≤ (Wl.hs d.S.length : Int)) = true := by simp; omega
    have b2 : decide ((Wl.hs d.S.length : Int) ≤ 512) = true := by simp; omega
    have HD : Hid (((d.S.length : Int) == 2 + 2 * (Wl.hs d.S.length : Int)) = decide (Wl.Fits d.S.length)) := hide (by
      rw [Bool.eq_iff_iff]; simp only [beq_iff_eq, decide_eq_true_eq, HF.out]; omega)
    generalize decide (Wl.Fits d.S.length) = T at *
    clear HF h1
    go_enter Try.func46, Try.ntmps46
    go_wp2_with fail
    refine HS.out.mono ?_
    rintro e w' ⟨rfl, rfl⟩
    go_wp2_with fail
    refine HZ.out.mono ?_
    rintro e w' ⟨rfl, rfl⟩
    go_wp2_with fail
    go_ret
    exact ⟨by rw [← HD.out]; rfl, rfl⟩
  · have b1 : decide ((1 : Int) ≤ (Wl.hs d.S.length : Int)) = false := by simp; omega
    rw [decide_eq_false (fun k => h1 (HF.out.mp k).1)]
    clear HF h1
    go_enter Try.func46, Try.ntmps46
    go_wp2_with fail
    refine HS.out.mono ?_
    rintro e w' ⟨rfl, rfl⟩
    go_wp2_with fail
    go_ret
    exact ⟨rfl, rfl⟩
theorem used_any (h : Hd) (h1 : h.sn ≤ 4294967296) (h2 : h.lg ≤ 4294967296) (w : World) : Calls Try.prog 40 #[.agg (hdC h)] w fun e w' => e = .returned (.int .i64 (h.used : Int)) ∧ w' = w.alloc (.cells (hdC h) 58) := by
  obtain ⟨num, half, sn, lg⟩ := h
  simp only [hdC] at *
  go_enter Try.func40, Try.ntmps40
  go_wp2
  go_ret
  exact ⟨rfl, rfl⟩
theorem other_any (h : Hd) (h1 : h.half < 2) (w : World) : Calls Try.prog 55 #[.agg (hdC h)] w fun e w' => e = .returned (.int .u8 ((1 - h.half : Nat) : Int)) ∧ w' = w.alloc (.cells (hdC h) 58) := by
  obtain ⟨num, half, sn, lg⟩ := h
  have HE : Hid ((1 : Int) - (half : Int) = ((1 - half : Nat) : Int)) := hide (by simp only at h1; omega)
  simp only [hdC] at *
  go_enter Try.func55, Try.ntmps55
  go_wp2
  go_ret
  exact ⟨by rw [← HE.out]; rfl, rfl⟩
theorem isLast_any (h : Hd) (w : World) : Calls Try.prog 36 #[.agg (hdC h)] w fun e w' => e = .returned (.bool (decide (1099511627776 ≤ h.num))) ∧ w' = w.alloc (.cells (hdC h) 58) := by
  obtain ⟨num, half, sn, lg⟩ := h
  have HE : Hid (decide ((1099511627776 : Int) ≤ (num : Int)) = decide (1099511627776 ≤ num)) := hide (by rw [decide_eq_decide]; omega)
  simp only [hdC] at *
  go_enter Try.func36, Try.ntmps36
  go_wp2
  go_ret
  exact ⟨by rw [← HE.out]; rfl, rfl⟩
theorem sector_any (h : Hd) (w : World) : Calls Try.prog 49 #[.agg (hdC h)] w fun e w' => e = .returned (.int .i64 ((h.num % 2 : Nat) : Int)) ∧ w' = w.alloc (.cells (hdC h) 58) := by
  obtain ⟨num, half, sn, lg⟩ := h
  have HE : Hid (Int.tmod (num : Int) 2 = ((num % 2 : Nat) : Int)) := hide rfl
  have h5 : num % 2 < 2 := Nat.mod_lt _ (by decide)
  simp only [hdC] at *
  go_enter Try.func49, Try.ntmps49
  go_wp2
  go_ret
  exact ⟨by first | rfl | (rw [← HE.out]; rfl), rfl⟩
theorem frameBytes_any (k : Nat) (hk : k ≤ 140737488351232) (w : World) : Calls Try.prog 41 #[.int .i64 (k : Int)] w fun e w' => e = .returned (.int .i64 (((Pk.enc k).length + k : Nat) : Int)) ∧ Below w.heap.size w w' := by
  have HP := hide (pnum_any k (by omega) w)
  have h10 := Pk.enc_ten (n := k) (by omega)
  go_enter Try.func41, Try.ntmps41
  go_wp2_with fail
  refine HP.out.mono ?_
  rintro e w' ⟨rfl, hb⟩
  go_wp2_with fail
  go_ret
  exact ⟨by simp, hb⟩
theorem made_bc (n : Nat) : madeCells #[Value.int .u8 0] n = (bc (List.replicate n 0)).toArray := by
  apply Array.ext_getElem?
  intro i
  by_cases hi : i < n
  · simp [madeCells, bc, hi, Nat.mod_one]
  · simp [madeCells, bc, hi]
/-- a row of bytes in memory -/
def Bf (w : World) (g : Nat) (l : List UInt8) : Prop := w.heap[g]? = some (.cells (bc l).toArray 5 (0, 0))
theorem sectorsFor_any (n : Nat) (hn : n ≤ 100000) (w : World) : Calls Try.prog 54 #[.int .i64 (n : Int)] w fun e w' => e = .returned (.slice (some ⟨w.heap.size, 0, none⟩) (Wl.up n * 128) (Wl.up n * 128)) ∧ w' = w.alloc (.cells (bc (List.replicate (Wl.up n * 128) 0)).toArray 5) := by
  have hu : Int.tdiv ((n : Int) + 128 - 1) 128 = (Wl.up n : Int) := by
    unfold Wl.up
    rw [Int.tdiv_eq_ediv_of_nonneg (by omega)]; omega
  have hu2 : Int.tdiv ((n : Int) + 127) 128 = (Wl.up n : Int) := by rw [Int.tdiv_eq_ediv_of_nonneg (by omega)]; unfold Wl.up; omega
  have hm : (Wl.up n : Int) * 128 = ((Wl.up n * 128 : Nat) : Int) := by simp
  have hub : Wl.up n * 128 ≤ 200000 := by unfold Wl.up; omega
  have hmk := run_make_row' (P := Try.prog) 45 5 (.int .u8 0) 1 Try.underlying45 Try.infoB rfl .i64 .i64 (Wl.up n * 128) (by omega) (by omega) w
  rw [made_bc] at hmk
  generalize hM : Wl.up n * 128 = M at *
  have h7 : (Wl.up n : Int) * 128 = (M : Int) := by omega
  clear hM hm
  go_enter Try.func54, Try.ntmps54
  go_wp2
  go_ret
  exact ⟨rfl, rfl⟩
end Go.Proofs.Ytojghjgbnnkldaa
end

section
namespace Go.Proofs.Ytojghjgbnnkldaa
open Go.RowKit Go.Shelf
open Wl (Hd WS Log)

theorem ba_append (a b : List UInt8) : (⟨a.toArray⟩ : ByteArray) ++ ⟨b.toArray⟩ = ⟨(a ++ b).toArray⟩ := by
  apply ByteArray.ext
  rw [ByteArray.data_append, List.append_toArray]
theorem add_str {a b : List UInt8} (h : a.length + b.length ≤ 100000) (W : World) : (Op.stringOp .add ⟨a.toArray⟩ ⟨b.toArray⟩).run Try.prog W = .ok (.string ⟨(a ++ b).toArray⟩) W := by
  have := run_string_add_sum (P := Try.prog) W ⟨a.toArray⟩ ⟨b.toArray⟩ (by show a.toArray.size + b.toArray.size ≤ _; simp; omega)
  rw [this, ba_append]
theorem new_cell (w : World) {cs : Array Value} {t : TypeId} {i : Nat} {v : Value} (h : cs[i]? = some v) : (w.alloc (.cells cs t)).cell? ⟨w.heap.size, i, none⟩ = some v := by
  unfold World.cell?; rw [heap_alloc_new]; exact h
theorem or32 {sn lg : Nat} (h2 : sn < 4294967296) (h3 : lg < 4294967296) : bits .or .u64 ((sn : Int) * 4294967296) (lg : Int) = ((sn * 4294967296 + lg : Nat) : Int) := by
  rw [show (sn : Int) * 4294967296 = ((sn * 4294967296 : Nat) : Int) by simp, u64_or_nat _ _ (by omega) (by omega), nat_join 32 _ _ (by show sn * 4294967296 % 4294967296 = 0; omega) (by show lg < 4294967296; exact h3)]
theorem rep103 : Lib.repeatL [0] 103 = List.replicate 103 0 := by decide
theorem one_byte (W : World) (half : Nat) (hh : half < 256) : (convert 45 9 (.slice (some ⟨W.heap.size, 0, none⟩) 1 1)).run Try.prog (W.alloc (.cells #[.int .u8 (half : Int)] 5)) = .ok (.string ⟨[UInt8.ofNat half].toArray⟩) (W.alloc (.cells #[.int .u8 (half : Int)] 5)) := by
  refine run_convert_bytes_back _ _ _ _ (⟨W.heap.size, 0, none⟩ : Addr) 1 [UInt8.ofNat half] Try.underlying45 Try.underlying5 Try.underlying9 ?_
  intro j hj
  obtain rfl : j = 0 := by simpa using hj
  have : (UInt8.ofNat half).toNat = half := by simp; omega
  simp only [List.getElem_cons_zero, this]
  exact one_X W _ _
set_option maxHeartbeats 1000000 in
theorem bytes_any (h : Hd) (h0 : h.num < 18446744073709551616) (h1 : h.half < 256) (h2 : h.sn < 4294967296) (h3 : h.lg < 4294967296) (w : World) :
    Calls Try.prog 50 #[.agg (hdC h)] w fun e w' => e = .returned (.string (Wl.headB h)) ∧ Below w.heap.size w w' := by
  obtain ⟨num, half, sn, lg⟩ := h
  have HR : Hid ((⟨((((Pk.big8 num ++ [UInt8.ofNat half]) ++ Pk.big8 (sn * 4294967296 + lg)) ++ List.replicate 103 0) ++ Pk.big8 num).toArray⟩ : ByteArray) = Wl.headB ⟨num, half, sn, lg⟩) := hide (by simp only [Wl.headB, Wl.headL, List.append_assoc])
  generalize Wl.headB ⟨num, half, sn, lg⟩ = R at *
  simp only [hdC] at *
  have HO := or32 h2 h3
  generalize hZ : sn * 4294967296 + lg = Z at *
  have hz : Z < 18446744073709551616 := by omega
  have l8 : (Pk.big8 num).length = 8 := rfl
  have l8' : (Pk.big8 Z).length = 8 := rfl
  have a1 : ∀ W : World, (Op.stringOp .add ⟨(Pk.big8 num).toArray⟩ ⟨[UInt8.ofNat half].toArray⟩).run Try.prog W = .ok (.string ⟨(Pk.big8 num ++ [UInt8.ofNat half]).toArray⟩) W := add_str (by simp [l8])
  have a2 : ∀ W : World, (Op.stringOp .add ⟨(Pk.big8 num ++ [UInt8.ofNat half]).toArray⟩ ⟨(Pk.big8 Z).toArray⟩).run Try.prog W = .ok (.string ⟨((Pk.big8 num ++ [UInt8.ofNat half]) ++ Pk.big8 Z).toArray⟩) W := add_str (by simp [l8, l8'])
  have a3 : ∀ W : World, (Op.stringOp .add ⟨((Pk.big8 num ++ [UInt8.ofNat half]) ++ Pk.big8 Z).toArray⟩ ⟨(List.replicate 103 0).toArray⟩).run Try.prog W = .ok (.string ⟨(((Pk.big8 num ++ [UInt8.ofNat half]) ++ Pk.big8 Z) ++ List.replicate 103 0).toArray⟩) W := add_str (by simp [l8, l8'])
  have a4 : ∀ W : World, (Op.stringOp .add ⟨(((Pk.big8 num ++ [UInt8.ofNat half]) ++ Pk.big8 Z) ++ List.replicate 103 0).toArray⟩ ⟨(Pk.big8 num).toArray⟩).run Try.prog W = .ok (.string ⟨((((Pk.big8 num ++ [UInt8.ofNat half]) ++ Pk.big8 Z) ++ List.replicate 103 0) ++ Pk.big8 num).toArray⟩) W := add_str (by simp [l8, l8'])
  have z3 : (⟨((Pk.big8 num ++ [UInt8.ofNat half]) ++ Pk.big8 Z).toArray⟩ : ByteArray).size = 17 := by show (List.toArray _).size = 17; simp [l8, l8']
  have z8 : (⟨(Pk.big8 num).toArray⟩ : ByteArray).size = 8 := by show (List.toArray _).size = 8; simp [l8]
  generalize hs4 : (⟨((((Pk.big8 num ++ [UInt8.ofNat half]) ++ Pk.big8 Z) ++ List.replicate 103 0) ++ Pk.big8 num).toArray⟩ : ByteArray) = s4 at *
  generalize hs3 : (⟨(((Pk.big8 num ++ [UInt8.ofNat half]) ++ Pk.big8 Z) ++ List.replicate 103 0).toArray⟩ : ByteArray) = s3 at *
  generalize hs2 : (⟨((Pk.big8 num ++ [UInt8.ofNat half]) ++ Pk.big8 Z).toArray⟩ : ByteArray) = s2 at *
  generalize hs1 : (⟨(Pk.big8 num ++ [UInt8.ofNat half]).toArray⟩ : ByteArray) = s1 at *
  have HP1 := fun W => hide (pbits_any num h0 W)
  have HP2 := fun W => hide (pbits_any Z hz W)
  have HB1 := fun W => one_byte W half h1
  have HRp := fun W => hide (Try.strings_Repeat ⟨#[0]⟩ 103 W (by decide) (by decide))
  rw [show (⟨#[0]⟩ : ByteArray).data.toList = [0] from rfl, rep103] at HRp
  generalize hb8 : (⟨(Pk.big8 num).toArray⟩ : ByteArray) = b8 at *
  generalize hb9 : (⟨(Pk.big8 Z).toArray⟩ : ByteArray) = b9 at *
  generalize hb1 : (⟨[UInt8.ofNat half].toArray⟩ : ByteArray) = b1 at *
  generalize hrp : (⟨(List.replicate 103 0).toArray⟩ : ByteArray) = rp at *
  clear hs1 hs2 hs3 hs4 hb8 hb9 hb1 hrp hZ l8 l8'
  go_enter Try.func50, Try.ntmps50
  go_wp2_with fail
  refine (HP1 _).out.mono ?_
  rintro e w1 ⟨rfl, hb1⟩
  have c1 : w1.cell? ⟨w.heap.size, 1, none⟩ = some (.int .u8 (half : Int)) := (hb1.cell (p := ⟨w.heap.size, 1, none⟩) (by simp)).trans (new_cell w rfl)
  have c2 : w1.cell? ⟨w.heap.size, 2, none⟩ = some (.int .i64 (sn : Int)) := (hb1.cell (p := ⟨w.heap.size, 2, none⟩) (by simp)).trans (new_cell w rfl)
  have c3 : w1.cell? ⟨w.heap.size, 3, none⟩ = some (.int .i64 (lg : Int)) := (hb1.cell (p := ⟨w.heap.size, 3, none⟩) (by simp)).trans (new_cell w rfl)
  have hlt : w.heap.size < w1.heap.size := by have := hb1.size; simp at this; omega
  have HBl : Hid (Below w.heap.size w w1) := hide ((below_alloc w _).trans (hb1.mono (by simp)))
  clear hb1
  go_wp2_with fail
  refine (HP2 _).out.mono ?_
  rintro e w2 ⟨rfl, hb2⟩
  have c1' : w2.cell? ⟨w.heap.size, 1, none⟩ = some (.int .u8 (half : Int)) := (hb2.cell (p := ⟨w.heap.size, 1, none⟩) hlt).trans c1
  have HBl2 : Hid (Below w.heap.size w w2) := hide (HBl.out.trans (hb2.mono (by omega)))
  have hlt2 : w.heap.size < w2.heap.size := Nat.lt_of_lt_of_le hlt hb2.size
  have HB1' := HB1 w2
  clear hb2 c1 c2 c3 HBl
  go_wp2_with fail
  refine (HRp _).out.mono ?_
  rintro e w3 ⟨rfl, hb3⟩
  have HBl3 : Hid (Below w.heap.size w w3) := hide ((HBl2.out.alloc (by omega) _).trans (hb3.mono (by simp; omega)))
  clear hb3
  go_wp2_with fail
  go_ret
  exact ⟨by rw [← HR.out]; rfl, HBl3.out⟩
end Go.Proofs.Ytojghjgbnnkldaa
end

section
namespace Go.Proofs.Ytojghjgbnnkldaa
open Go.RowKit Go.Shelf
open Wl (Hd WS Log)

theorem bitsV_lt (b : ByteArray) (p : Nat) : bitsV b p < 18446744073709551616 := by
  unfold bitsV
  have h := Pk.fold8_lt ((rest b p).take 8) ((rest b p).take 8).length (Nat.le_refl _)
  rw [List.take_length] at h
  refine Nat.lt_of_lt_of_le h (Nat.le_trans (Nat.pow_le_pow_right (by decide) (show _ ≤ 8 by simp; omega)) (by decide))
theorem run_idx8 (s : ByteArray) (hs : s.size = 128) (W : World) : (Instr.index 9 (.string s) (.int .i64 8)).run Try.prog W = .ok (.int .u8 ((s.data.toList.getD 8 0).toNat : Int)) W := by
  go_simp
  rfl
set_option maxHeartbeats 1000000 in
theorem parseHead_any (s : ByteArray) (hs : s.size = 128) (w : World) :
    Calls Try.prog 62 #[.string s] w fun e w' => e = .returned (.agg (hdC (Wl.parse s))) ∧ Below w.heap.size w w' := by
  have HD : Hid (hdC (Wl.parse s) = #[.int .u64 (bitsV s 0 : Int), .int .u8 ((s.data.toList.getD 8 0).toNat : Int), .int .i64 ((bitsV (s.extract 9 128) 0 / 4294967296 : Nat) : Int), .int .i64 ((bitsV (s.extract 9 128) 0 % 4294967296 : Nat) : Int)])  := hide (by simp only [Wl.parse, hdC, hs])
  have f1 := fun W => run_idx8 s hs W
  generalize s.data.toList.getD 8 0 = B8 at *
  have hv := bitsV_lt (s.extract 9 128) 0
  have hk1 : bitsK s 0 = 0 := if_neg (by omega)
  have hk2 : bitsK (s.extract 9 128) 0 = 0 := if_neg (by simp; omega)
  generalize hdC (Wl.parse s) = R at *
  have hT : Hid ((s.extract 9 128).size = 119) := hide (by simp; omega)
  have hsl : ∀ W : World, (Instr.slice 9 (.string s) (some (.int .i64 9)) none none).run Try.prog W = .ok (.string (s.extract 9 128)) W := by
    intro W; go_simp
  generalize s.extract 9 128 = T at *
  go_enter Try.func62, Try.ntmps62
  go_wp2_with fail
  refine (read_any s _).mono ?_
  rintro e w1 ⟨rfl, hr1, hb1⟩
  rw [World.size_alloc] at hr1
  have hb1' : Below (w.heap.size + 1) (w.alloc (.cells #[.int .u64 0, .int .u8 0, .int .i64 0, .int .i64 0] 58)) w1 := by rw [World.size_alloc] at hb1; exact hb1
  clear hb1
  go_wp2_with fail
  refine (rbits_any hr1 (Nat.zero_le _) (by omega)).mono ?_
  intro e w2 hF
  obtain ⟨rfl, hR⟩ := hF.ok hk1
  have hb2 : Below (w.heap.size + 1) (w.alloc (.cells #[.int .u64 0, .int .u8 0, .int .i64 0, .int .i64 0] 58)) w2 := hb1'.grown hF.grown (by simpa using hb1'.size) (fun k hk => by injection hk with hk; omega)
  clear hF hR hr1 hb1'
  go_wp2_with fail
  refine (read_any T _).mono ?_
  rintro e w3 ⟨rfl, hr3, hb3⟩
  have hb3' : Below (w.heap.size + 1) (w.alloc (.cells #[.int .u64 0, .int .u8 0, .int .i64 0, .int .i64 0] 58)) w3 := hb2.trans (hb3.mono (by simpa using hb2.size))
  have hl2 : w.heap.size + 1 ≤ w2.heap.size := by simpa using hb2.size
  clear hb3 hb2 hsl
  go_wp2_with fail
  refine (rbits_any hr3 (Nat.zero_le _) (by have := hT.out; omega)).mono ?_
  intro e w4 hF
  obtain ⟨rfl, hR⟩ := hF.ok hk2
  have hb4 : Below (w.heap.size + 1) (w.alloc (.cells #[.int .u64 0, .int .u8 0, .int .i64 0, .int .i64 0] 58)) w4 := hb3'.grown hF.grown (by simpa using hb3'.size) (fun k hk => by injection hk with hk; omega)
  have hblk : w4.heap[w.heap.size]? = some (.cells #[.int .u64 0, .int .u8 0, .int .i64 0, .int .i64 0] 58 (0, 0)) := (hb4.block _ (by omega)).trans (heap_alloc_new w _)
  have HB4 : Hid (Below w.heap.size w w4) := hide ((below_alloc w _).trans (hb4.mono (by omega)))
  have HBK := hide hblk
  clear hF hR hr3 hb3' hb4 hk1 hk2
  generalize bitsV T 0 = V at *
  generalize bitsV s 0 = U at *
  have z4 : ∀ k, w4.frozen? ⟨w.heap.size, k, none⟩ = false := fun k => by simp [World.frozen?, hblk]
  have c0 : w4.cell? ⟨w.heap.size, 0, none⟩ = some (.int .u64 0) := by simp [World.cell?, hblk]
  have c1 : w4.cell? ⟨w.heap.size, 1, none⟩ = some (.int .u8 0) := by simp [World.cell?, hblk]
  have c2 : w4.cell? ⟨w.heap.size, 2, none⟩ = some (.int .i64 0) := by simp [World.cell?, hblk]
  have c3 : w4.cell? ⟨w.heap.size, 3, none⟩ = some (.int .i64 0) := by simp [World.cell?, hblk]
  have hlt4 : w.heap.size < w4.heap.size := lt_of_block hblk
  clear hblk
  have hq : (V : Int) / 4294967296 < 4294967296 := by omega
  have hq0 : 0 ≤ (V : Int) / 4294967296 := by omega
  have hr : (V : Int) % 4294967296 < 4294967296 := by omega
  have hr0 : 0 ≤ (V : Int) % 4294967296 := by omega
  have HX : Hid (((V / 4294967296 : Nat) : Int) = (V : Int) / 4294967296 ∧ ((V % 4294967296 : Nat) : Int) = (V : Int) % 4294967296) := hide ⟨by simp, by simp⟩
  rw [HX.out.1, HX.out.2] at HD
  clear hv hl2 HX
  go_wp2_with fail
  exact bodyPost_ret (v := .agg #[.int .u64 (U : Int), .int .u8 (B8.toNat : Int), .int .i64 ((V : Int) / 4294967296), .int .i64 ((V : Int) % 4294967296)]) (by simp [results, Try.results62, go_sem, c0, c1, c2, c3]) rfl ⟨by rw [HD.out], (((HB4.out.setCell (Nat.le_refl _) _).setCell (Nat.le_refl _) _).setCell (Nat.le_refl _) _).setCell (Nat.le_refl _) _⟩
set_option maxHeartbeats 1000000 in
theorem mayBe_any (h : Hd) (h2 : h.sn < 4294967296) (h3 : h.lg < 4294967296) (room : Nat) (w : World) :
    Calls Try.prog 63 #[.agg (hdC h), .int .i64 (room : Int)] w fun e w' => e = .returned (.bool (decide (Wl.MayBe h room))) ∧ Below w.heap.size w w' := by
  have HM : Hid (Wl.MayBe h room ↔ 1 ≤ h.num ∧ h.num ≤ 1099511627776 ∧ h.half < 2 ∧ h.sn ≤ 17000 ∧ h.used ≤ room) := hide Iff.rfl
  have HU := fun W => hide (used_any h (by omega) (by omega) W)
  obtain ⟨num, half, sn, lg⟩ := h
  simp only [hdC] at *
  have HD : Hid (decide (Wl.MayBe ⟨num, half, sn, lg⟩ room) = decide (1 ≤ num ∧ num ≤ 1099511627776 ∧ half < 2 ∧ sn ≤ 17000 ∧ Hd.used ⟨num, half, sn, lg⟩ ≤ room)) := hide (decide_eq_decide.mpr HM.out)
  generalize decide (Wl.MayBe ⟨num, half, sn, lg⟩ room) = T at *
  clear HM
  by_cases b1 : 1 ≤ num
  case neg =>
    have HF : Hid (T = false) := hide (by rw [HD.out]; exact decide_eq_false fun k => b1 k.1)
    have c : decide ((1 : Int) ≤ (num : Int)) = false := by simp; omega
    clear HD b1
    go_enter Try.func63, Try.ntmps63
    go_wp2_with fail
    go_ret
    exact ⟨by rw [HF.out]; rfl, below_alloc _ _⟩
  have c1 : decide ((1 : Int) ≤ (num : Int)) = true := by simp; omega
  by_cases b2 : num ≤ 1099511627776
  case neg =>
    have HF : Hid (T = false) := hide (by rw [HD.out]; exact decide_eq_false fun k => b2 k.2.1)
    have c : decide ((num : Int) ≤ 1099511627776) = false := by simp; omega
    clear HD b1 b2
    go_enter Try.func63, Try.ntmps63
    go_wp2_with fail
    go_ret
    exact ⟨by rw [HF.out]; rfl, below_alloc _ _⟩
  have c2 : decide ((num : Int) ≤ 1099511627776) = true := by simp; omega
  by_cases b3 : half < 2
  case neg =>
    have HF : Hid (T = false) := hide (by rw [HD.out]; exact decide_eq_false fun k => b3 k.2.2.1)
    have c : decide ((half : Int) < 2) = false := by simp; omega
    clear HD b1 b2 b3
    go_enter Try.func63, Try.ntmps63
    go_wp2_with fail
    go_ret
    exact ⟨by rw [HF.out]; rfl, below_alloc _ _⟩
  have c3 : decide ((half : Int) < 2) = true := by simp; omega
  by_cases b4 : sn ≤ 17000
  case neg =>
    have HF : Hid (T = false) := hide (by rw [HD.out]; exact decide_eq_false fun k => b4 k.2.2.2.1)
    have c : decide ((sn : Int) ≤ 17000) = false := by simp; omega
    clear HD b1 b2 b3 b4
    go_enter Try.func63, Try.ntmps63
    go_wp2_with fail
    go_ret
    exact ⟨by rw [HF.out]; rfl, below_alloc _ _⟩
  have c4 : decide ((sn : Int) ≤ 17000) = true := by simp; omega
  have HF : Hid (T = decide (Hd.used ⟨num, half, sn, lg⟩ ≤ room)) := hide (by rw [HD.out, decide_eq_decide]; omega)
  generalize Hd.used ⟨num, half, sn, lg⟩ = U at *
  clear HD b1 b2 b3 b4
  go_enter Try.func63, Try.ntmps63
  go_wp2_with fail
  refine (HU _).out.mono ?_
  rintro e w' ⟨rfl, rfl⟩
  go_wp2_with fail
  go_ret
  exact ⟨by rw [HF.out]; rfl, (below_alloc _ _).alloc (by simp) _⟩
theorem cut_any (g n k : Nat) (h : (k + 1) * 128 ≤ n) (hn : n ≤ 200000) (w : World) :
    Calls Try.prog 75 #[.slice (some ⟨g, 0, none⟩) n n, .int .i64 (k : Int)] w fun e w' => e = .returned (.slice (some ⟨g, k * 128, none⟩) 128 128) ∧ w' = w := by
  have h1 : ((k : Int) + 1) * 128 ≤ (n : Int) := by omega
  go_enter Try.func75, Try.ntmps75
  go_wp2
  go_ret
  have he : (k + 1) * 128 - k * 128 = 128 := by omega
  exact ⟨by show Ending.returned (.slice _ ((k + 1) * 128 - k * 128) ((k + 1) * 128 - k * 128)) = _; rw [he], rfl⟩
end Go.Proofs.Ytojghjgbnnkldaa
end

section
namespace Go.Proofs.Ytojghjgbnnkldaa
open Go.RowKit Go.Shelf
open Wl (Hd WS Log)

theorem sc_bc (s : ByteArray) : D.sc s = bc s.data.toList := rfl
theorem flat_cons (s : ByteArray) (S : List ByteArray) : Wl.flat (s :: S) = s.data.toList ++ Wl.flat S := by simp [Wl.flat]
theorem flat_len {S : List ByteArray} (h : D.A128 S) : (Wl.flat S).length = S.length * 128 := by
  induction S with
  | nil => rfl
  | cons s S ih => rw [flat_cons, List.length_append, ih h.tail, ← D.size_list, h.head, List.length_cons]; omega
theorem drop128 {S : List ByteArray} (h : D.A128 S) (k : Nat) : D.A128 (S.drop k) := fun s hs => h s (List.mem_of_mem_drop hs)
theorem flat_at {S : List ByteArray} (h : D.A128 S) {k : Nat} (hk : k < S.length) : (Wl.flat S).take ((k + 1) * 128) = (Wl.flat S).take (k * 128) ++ (S[k]).data.toList := by
  induction k generalizing S with
  | zero =>
    cases S with
    | nil => simp at hk
    | cons s S =>
      rw [flat_cons, show (0 + 1) * 128 = s.data.toList.length by rw [← D.size_list, h.head], List.take_append_of_le_length (Nat.le_refl _), List.take_length]; simp
  | succ k ih =>
    cases S with
    | nil => simp at hk
    | cons s S =>
      have hl : s.data.toList.length = 128 := by rw [← D.size_list, h.head]
      rw [flat_cons, show (k + 1 + 1) * 128 = s.data.toList.length + (k + 1) * 128 by rw [hl]; omega, show (k + 1) * 128 = s.data.toList.length + k * 128 by rw [hl]; omega, List.take_length_add_append, List.take_length_add_append,
        show s.data.toList.length + k * 128 = (k + 1) * 128 by rw [hl]; omega, ih h.tail (by simpa using hk), List.append_assoc]
      rfl
theorem setRow_at {w : World} {g : Nat} {cs : Array Value} {t : TypeId} {fr : Nat × Nat} (h : w.heap[g]? = some (.cells cs t fr)) (ds : Array Value) : (w.setRow g ds).heap[g]? = some (.cells ds t fr) := by
  have hg := lt_of_block h
  simp only [World.setRow, Array.getElem?_modify, h]; simp
theorem below_setRow {w w' : World} {B g : Nat} (h : Below B w w') (hg : B ≤ g) (ds : Array Value) : Below B w (w'.setRow g ds) :=
  ⟨h.os, h.tape, h.output, by rw [D.setRow_size]; exact h.size, fun k hk => (D.setRow_far _ _ _ _ (by omega)).trans (h.block k hk)⟩
/-- what is read, and noughts -/
def bufR (S : List ByteArray) (m k : Nat) : List UInt8 := (Wl.flat S).take (k * 128) ++ List.replicate ((m - k) * 128) 0
theorem bufR_len {S : List ByteArray} (h : D.A128 S) {m k : Nat} (hk : k ≤ m) (hm : m ≤ S.length) : (bufR S m k).length = m * 128 := by
  unfold bufR; rw [List.length_append, List.length_take, flat_len h, List.length_replicate]; omega
theorem bufR_step {S : List ByteArray} (h : D.A128 S) {m k : Nat} (hk : k < m) (hm : m ≤ S.length) : splice (bc (bufR S m k)) (k * 128) (bc (S[k]'(by omega)).data.toList) = bc (bufR S m (k + 1)) := by
  have hl : (S[k]'(by omega)).data.toList.length = 128 := by rw [← D.size_list, h.get (by omega)]
  have ht : ((Wl.flat S).take (k * 128)).length = k * 128 := by rw [List.length_take, flat_len h]; omega
  unfold bufR splice
  rw [flat_at h (show k < S.length by omega), bc_append, bc_append, bc_append]
  rw [List.take_append_of_le_length (by rw [bc_len, ht]; omega), List.take_of_length_le (by rw [bc_len, ht]; omega), bc_len, hl, List.drop_append, List.drop_eq_nil_of_le (by rw [bc_len, ht]; omega), bc_len, ht, List.nil_append]
  rw [← List.append_assoc]
  congr 1
  unfold bc
  rw [List.map_replicate, List.map_replicate, List.drop_replicate]
  congr 1; omega
set_option maxHeartbeats 1000000 in
theorem readBytes_any {base : Nat} {w : World} {b : Nat} {F : Nat → Prop} {d : D.DS} (h : D.Dk base w b F d) (hd : d.dead = false) (first n : Nat) (hn : n ≤ 100000) (hf : first + Wl.up n ≤ d.S.length) :
    Calls Try.prog 64 #[.pointer (some ⟨b, 0, none⟩), .int .i64 (first : Int), .int .i64 (n : Int)] w fun e w' => e = .returned (.string ⟨((Wl.flat (d.S.drop first)).take n).toArray⟩) ∧ Below w.heap.size w w' := by
  have HD := hide h
  have hS := h.ok.s1
  have H8 : Hid (D.A128 (d.S.drop first)) := hide (drop128 h.ok.s128 _)
  have hm : Wl.up n ≤ (d.S.drop first).length := by rw [List.length_drop]; omega
  have hq : Int.tdiv ((Wl.up n * 128 : Nat) : Int) 128 = (Wl.up n : Int) := by rw [Int.tdiv_eq_ediv_of_nonneg (by omega)]; omega
  have HSF := hide (sectorsFor_any n hn w)
  have hun : n ≤ Wl.up n * 128 := by unfold Wl.up; omega
  have hub : Wl.up n ≤ 1000 := by unfold Wl.up; omega
  have H0 : Hid (bc (List.replicate (Wl.up n * 128) 0) = bc (bufR (d.S.drop first) (Wl.up n) 0)) := hide (by unfold bufR; simp)
  have HR : Hid (∀ k, k < Wl.up n → d.read (((first : Int) + (k : Int))) = ((d.S.drop first)[k]!, 0)) := hide fun k hk => by
    unfold D.DS.read
    rw [if_neg (by simp [hd]), if_neg (by omega), show ((first : Int) + (k : Int)).toNat = first + k by omega, List.getD_eq_getElem?_getD, getElem!_pos (d.S.drop first) k (by omega), List.getElem?_eq_getElem (by omega), List.getElem_drop]; rfl
  have HFN : Hid ((Wl.flat (d.S.drop first)).take n = (bufR (d.S.drop first) (Wl.up n) (Wl.up n)).take n) := hide (by
    unfold bufR; rw [Nat.sub_self, Nat.zero_mul, List.replicate_zero, List.append_nil, List.take_take, Nat.min_eq_left hun])
  rw [HFN.out]
  generalize d.S.drop first = S at *
  generalize hM : Wl.up n = M at *
  clear h HFN hM
  go_enter Try.func64, Try.ntmps64
  go_wp2_with fail
  refine HSF.out.mono ?_
  rintro e w1 ⟨rfl, rfl⟩
  rw [H0.out]
  have hgs : w.heap.size < (w.alloc (.cells (bc (bufR S M 0)).toArray 5)).heap.size := by simp
  go_wp2_with fail
  go_loopw [16] (fun s wr => ∃ k : Nat, k ≤ M ∧ s = .int .i64 (k : Int) ∧ Hid (Bf wr w.heap.size (bufR S M k)) ∧ Hid (Below w.heap.size w wr)) (fun s _ => M - (intOf s).toNat)
  case atStart => exact ⟨0, Nat.zero_le _, rfl, hide (heap_alloc_new w _), hide (below_alloc _ _)⟩
  case round =>
    obtain ⟨k, hk, rfl, HK, HB⟩ := hrel
    by_cases hkl : k < M
    · have hki : (k : Int) < (M : Int) := by omega
      have HRd := hide (D.read_any (HD.out.below HB.out) ((first : Int) + (k : Int)))
      rw [HR.out k hkl] at HRd
      have hz : Hid ((S[k]!).size = 128) := hide (by rw [getElem!_pos S k (by omega)]; exact H8.out.get _)
      have HC := hide (cut_any w.heap.size (M * 128) k (by omega) (by omega) wr)
      have HCp := D.run_copy_str (P := Try.prog) wr 45 9 3 5 w.heap.size (k * 128) 128 128 (S[k]!) (bc (bufR S M k)).toArray 5 Try.underlying45 D.Try.infoU HK.out (by rw [hz.out]; omega) (by rw [hz.out, List.size_toArray, bc_len, bufR_len H8.out (by omega) hm]; omega)
      rw [show (bc (bufR S M k)).toArray.toList = bc (bufR S M k) by simp, sc_bc, getElem!_pos S k (by omega), bufR_step H8.out hkl hm] at HCp
      rw [getElem!_pos S k (by omega)] at HRd
      have HK2 : Hid (Bf (wr.setRow w.heap.size (bc (bufR S M (k + 1))).toArray) w.heap.size (bufR S M (k + 1))) := hide (setRow_at HK.out _)
      have HB2 : Hid (Below w.heap.size w (wr.setRow w.heap.size (bc (bufR S M (k + 1))).toArray)) := hide (below_setRow HB.out (Nat.le_refl _) _)
      generalize (bc (bufR S M (k + 1))).toArray = X at *
      generalize S[k] = s at *
      clear HK HB hz
      go_wp2_with fail
      refine HRd.out.mono ?_
      rintro e w' ⟨rfl, rfl⟩
      go_wp2_with fail
      refine HC.out.mono ?_
      rintro e w' ⟨rfl, rfl⟩
      go_wp2_with fail
      go_roundw
      case rel => exact ⟨k + 1, by omega, rfl, HK2, HB2⟩
      case measure => simp only [intOf]; omega
    · have hki : ¬ (k : Int) < (M : Int) := by omega
      obtain rfl : k = M := by omega
      have hlen : ((bufR S k k).take n).length = n := by rw [List.length_take, bufR_len H8.out (Nat.le_refl _) hm]; omega
      have hcv := run_convert_bytes_back (P := Try.prog) wr 45 9 5 ⟨w.heap.size, 0, none⟩ (k * 128) ((bufR S k k).take n) Try.underlying45 Try.underlying5 Try.underlying9 (by
        intro j hj
        rw [Addr.add_lit, Nat.zero_add]
        unfold World.cell?
        rw [HK.out]
        show (bc (bufR S k k)).toArray[j]? = _
        rw [hlen] at hj
        have hj2 : j < (bufR S k k).length := by rw [bufR_len H8.out (Nat.le_refl _) hm]; omega
        simp [bc, hj2])
      rw [hlen] at hcv
      generalize hRR : (⟨((bufR S k k).take n).toArray⟩ : ByteArray) = R at *
      have HRR := hide hRR
      have hnq : (n : Int) ≤ ((k * 128 : Nat) : Int) := by omega
      generalize k * 128 = Q at *
      clear HK hlen HR H0 hun hq hRR
      go_wp2_with fail
      go_ret
      exact ⟨by rw [HRR.out]; rfl, HB.out⟩
end Go.Proofs.Ytojghjgbnnkldaa
end

section
namespace Go.Proofs.Ytojghjgbnnkldaa
open Go.RowKit Go.Shelf
open Wl (Hd WS Log)

def secs (l : List UInt8) (m : Nat) : List ByteArray := (List.range m).map (Wl.sect l)
theorem secs_drop {l : List UInt8} {m k : Nat} (hk : k < m) : (secs l m).drop k = Wl.sect l k :: (secs l m).drop (k + 1) := by
  unfold secs
  rw [List.drop_eq_getElem_cons (by simpa using hk)]; simp
theorem secs_end (l : List UInt8) (m : Nat) : (secs l m).drop m = [] := List.drop_eq_nil_of_le (by simp [secs])
theorem sect_size {l : List UInt8} {m k : Nat} (h : l.length = m * 128) (hk : k < m) : (Wl.sect l k).size = 128 := by
  show (List.toArray _).size = 128
  simp; omega
theorem wsec_cons (d : D.DS) (k : Nat) (s : ByteArray) (l : List ByteArray) : Wl.wsec d k (s :: l) = if (d.write k s).1 ≠ 0 then d.write k s else Wl.wsec (d.write k s).2 (k + 1) l := rfl
theorem write_R (d : D.DS) (k : Int) (s : ByteArray) : (d.write k s).2.R.length ≤ d.R.length + 1 := by
  unfold D.DS.write
  (repeat' split) <;> simp
theorem Bf.mv {w w' : World} {g : Nat} {l : List UInt8} {F F' : Nat → Prop} (h : Bf w g l) (hm : D.Mv F F' w w') (hn : ¬ F g) : Bf w' g l := (hm.block g (lt_of_block h) hn).trans h
set_option maxHeartbeats 1000000 in
theorem writeSectors_any {base : Nat} {w : World} {b g first m : Nat} {F : Nat → Prop} {d : D.DS} {l : List UInt8} (h : D.Dk base w b F d) (hl : l.length = m * 128) (hb : Bf w g l) (hg : ¬ F g) (hm : m ≤ 1000) (hf : first ≤ 100000) (hR : (d.R.length + m) * 24 ≤ 140737488355328) :
    Calls Try.prog 72 #[.pointer (some ⟨b, 0, none⟩), .int .i64 (first : Int), .slice (some ⟨g, 0, none⟩) (m * 128) (m * 128)] w fun e w' => e = .returned (.int .i64 (Wl.wsec d first (secs l m)).1) ∧ ∃ F', D.Dk base w' b F' (Wl.wsec d first (secs l m)).2 ∧ D.Mv F F' w w' := by
  have HD := hide h
  have HBf := hide hb
  have hgl : g < w.heap.size := lt_of_block hb
  have hq : Int.tdiv ((m * 128 : Nat) : Int) 128 = (m : Int) := by rw [Int.tdiv_eq_ediv_of_nonneg (by omega)]; omega
  clear h hb
  obtain ⟨R, hRR⟩ : ∃ R, Wl.wsec d first (secs l m) = R := ⟨_, rfl⟩
  have HRR := hide hRR
  rw [hRR]
  clear hRR
  go_enter Try.func72, Try.ntmps72
  go_wp2_with fail
  go_loopw [12] (fun s wr => ∃ (k : Nat) (dk : D.DS) (Fk : Nat → Prop), k ≤ m ∧ s = .int .i64 (k : Int) ∧ Hid (Wl.wsec dk (first + k) ((secs l m).drop k) = R) ∧ Hid (dk.R.length ≤ d.R.length + k) ∧ Hid (D.Dk base wr b Fk dk) ∧ Hid (D.Mv F Fk w wr)) (fun s _ => m - (intOf s).toNat)
  case atStart => exact ⟨0, d, F, Nat.zero_le _, rfl, HRR, hide (Nat.le_refl _), HD, hide (D.Mv.refl _)⟩
  case round =>
    obtain ⟨k, dk, Fk, hk, rfl, HW, HL, HK, HM⟩ := hrel
    by_cases hkl : k < m
    · have hki : (k : Int) < (m : Int) := by omega
      have hbk : Bf wr g l := HBf.out.mv HM.out hg
      have hgk : ¬ Fk g := fun h => by rcases HM.out.foot g h with h2 | h2; exact hg h2; omega
      have HC := hide (cut_any g (m * 128) k (by omega) (by omega) wr)
      have hz := sect_size hl hkl
      have hcv := run_convert_bytes_back (P := Try.prog) wr 45 9 5 ⟨g, k * 128, none⟩ 128 ((l.drop (k * 128)).take 128) Try.underlying45 Try.underlying5 Try.underlying9 (by
        intro j hj
        rw [Addr.add_lit]
        unfold World.cell?
        rw [show wr.heap[(⟨g, k * 128 + j, none⟩ : Addr).block]? = wr.heap[g]? from rfl, hbk]
        show (bc l).toArray[k * 128 + j]? = _
        have hj1 : j < 128 := by have := hj; simp at this; omega
        have hj2 : k * 128 + j < l.length := by omega
        simp [bc, hj2])
      rw [show ((l.drop (k * 128)).take 128).length = 128 by simp; omega] at hcv
      have HS : Hid ((⟨((l.drop (k * 128)).take 128).toArray⟩ : ByteArray) = Wl.sect l k) := hide rfl
      rw [HS.out] at hcv
      have HWr := hide (D.write_any HK.out ((first : Int) + (k : Int)) (Wl.sect l k) (by have := HL.out; omega))
      have HW2 := HW.out
      rw [secs_drop hkl, wsec_cons, show (((first + k : Nat)) : Int) = (first : Int) + (k : Int) by simp] at HW2
      have HL2 := write_R dk ((first : Int) + (k : Int)) (Wl.sect l k)
      have HL3 := HL.out
      generalize Wl.sect l k = s at *
      generalize dk.write ((first : Int) + (k : Int)) s = X at *
      obtain ⟨xe, xd⟩ := X
      simp only at HW2 HL2 HWr
      have HWh := hide HW2
      have HLh : Hid (xd.R.length ≤ d.R.length + (k + 1)) := hide (by omega)
      clear HW HL HL2 HL3 hz HBf hbk HS HW2
      go_wp2_with fail
      refine HC.out.mono ?_
      rintro e w' ⟨rfl, rfl⟩
      go_wp2_with fail
      refine HWr.out.mono ?_
      rintro e w2 ⟨rfl, F2, hD2, hM2⟩
      have HD2 := hide hD2
      have HM2 := hide (HM.out.trans hM2)
      clear hD2 hM2 HWr
      by_cases hx : xe = 0
      · subst hx
        have HW3 : Hid (Wl.wsec xd (first + (k + 1)) ((secs l m).drop (k + 1)) = R) := hide (by have := HWh.out; rw [if_neg (by simp)] at this; exact this)
        clear HWh
        go_wp2_with fail
        go_roundw
        case rel => exact ⟨k + 1, xd, F2, by omega, rfl, HW3, HLh, HD2, HM2⟩
        case measure => simp only [intOf]; omega
      · have HW3 : Hid ((xe, xd) = R) := hide (by have := HWh.out; rw [if_pos hx] at this; exact this)
        have bx : (xe != 0) = true := by simpa using hx
        clear HWh
        go_wp2_with fail
        go_ret
        exact ⟨by rw [← HW3.out]; rfl, F2, by rw [← HW3.out]; exact HD2.out, HM2.out⟩
    · have hki : ¬ (k : Int) < (m : Int) := by omega
      obtain rfl : k = m := by omega
      have HW3 : Hid ((0, dk) = R) := hide (by have := HW.out; rw [secs_end] at this; exact this)
      clear HW
      go_wp2_with fail
      go_ret
      exact ⟨by rw [← HW3.out]; rfl, Fk, by rw [← HW3.out]; exact HK.out, HM.out⟩
end Go.Proofs.Ytojghjgbnnkldaa
end
