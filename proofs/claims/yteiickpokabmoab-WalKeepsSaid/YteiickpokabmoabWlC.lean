import Derived.Test.YteiickpokabmoabWlB
import Derived.Test.YteiickpokabmoabShelfR
import Derived.Laws.Concat
import Derived.Laws.BitsAllLaws
namespace Go.Proofs.Yteiickpokabmoab
open Go.RowKit Go.Shelf
open Wl (Hd WS Log)

theorem ba_append (a b : List UInt8) : (⟨a.toArray⟩ : ByteArray) ++ ⟨b.toArray⟩ = ⟨(a ++ b).toArray⟩ := by
  apply ByteArray.ext
  rw [ByteArray.data_append, List.append_toArray]
theorem add_str {a b : List UInt8} (h : a.length + b.length ≤ 100000) (W : World) : (Op.stringOp .add ⟨a.toArray⟩ ⟨b.toArray⟩).run Try.prog W = .ok (.string ⟨(a ++ b).toArray⟩) W := by
  have := run_string_add_sum (P := Try.prog) W ⟨a.toArray⟩ ⟨b.toArray⟩ (by show a.toArray.size + b.toArray.size ≤ _; simp; omega)
  rw [this, ba_append]
theorem new_cell (w : World) {cs : Array Value} {t : TypeId} {i : Nat} {v : Value} (h : cs[i]? = some v) : (w.alloc (.cells cs t)).cell? ⟨w.heap.size, i, none⟩ = some v := by
  unfold World.cell?; rw [heap_alloc_new]; exact h
theorem or32 {sn lg : Nat} (h2 : sn < 4294967296) (h3 : lg < 4294967296) : bits .or .u64 ((sn : Int) * 4294967296) (lg : Int) = ((sn * 4294967296 + lg : Nat) : Int) := by
  rw [show (sn : Int) * 4294967296 = ((sn * 4294967296 : Nat) : Int) by simp, u64_or_nat _ _ (by omega) (by omega), nat_join 32 _ _ (by show sn * 4294967296 % 4294967296 = 0; omega) (by show lg < 4294967296; exact h3)]
theorem rep103 : Lib.repeatL [0] 103 = List.replicate 103 0 := by decide
theorem one_byte (W : World) (half : Nat) (hh : half < 256) : (convert 59 9 (.slice (some ⟨W.heap.size, 0, none⟩) 1 1)).run Try.prog (W.alloc (.cells #[.int .u8 (half : Int)] 5)) = .ok (.string ⟨[UInt8.ofNat half].toArray⟩) (W.alloc (.cells #[.int .u8 (half : Int)] 5)) := by
  refine run_convert_bytes_back _ _ _ _ (⟨W.heap.size, 0, none⟩ : Addr) 1 [UInt8.ofNat half] Try.underlying59 Try.underlying5 Try.underlying9 ?_
  intro j hj
  obtain rfl : j = 0 := by simpa using hj
  have : (UInt8.ofNat half).toNat = half := by simp; omega
  simp only [List.getElem_cons_zero, this]
  exact one_X W _ _
set_option maxHeartbeats 1000000 in
theorem bytes_any (h : Hd) (h0 : h.num < 18446744073709551616) (h1 : h.half < 256) (h2 : h.sn < 4294967296) (h3 : h.lg < 4294967296) (w : World) :
    Calls Try.prog 46 #[.agg (hdC h)] w fun e w' => e = .returned (.string (Wl.headB h)) ∧ Below w.heap.size w w' := by
  obtain ⟨num, half, sn, lg⟩ := h
  have HR : Hid ((⟨((((Pk.big8 num ++ [UInt8.ofNat half]) ++ Pk.big8 (sn * 4294967296 + lg)) ++ List.replicate 103 0) ++ Pk.big8 num).toArray⟩ : ByteArray) = Wl.headB ⟨num, half, sn, lg⟩) := hide (by simp only [Wl.headB, Wl.headL, List.append_assoc])
  generalize Wl.headB ⟨num, half, sn, lg⟩ = R at *
  simp only [hdC] at *
  have HO := or32 h2 h3
  generalize hZ : sn * 4294967296 + lg = Z at *
  have hz : Z < 18446744073709551616 := by omega
  have l8 : (Pk.big8 num).length = 8 := rfl
  have l8' : (Pk.big8 Z).length = 8 := rfl
  have a1 : ∀ W : World, (Op.stringOp .add ⟨(Pk.big8 num).toArray⟩ ⟨[UInt8.ofNat half].toArray⟩).run Try.prog W = .ok (.string ⟨(Pk.big8 num ++ [UInt8.ofNat half]).toArray⟩) W := add_str (by simp [l8])
  have a2 : ∀ W : World, (Op.stringOp .add ⟨(Pk.big8 num ++ [UInt8.ofNat half]).toArray⟩ ⟨(Pk.big8 Z).toArray⟩).run Try.prog W = .ok (.string ⟨((Pk.big8 num ++ [UInt8.ofNat half]) ++ Pk.big8 Z).toArray⟩) W := add_str (by simp [l8, l8'])
  have a3 : ∀ W : World, (Op.stringOp .add ⟨((Pk.big8 num ++ [UInt8.ofNat half]) ++ Pk.big8 Z).toArray⟩ ⟨(List.replicate 103 0).toArray⟩).run Try.prog W = .ok (.string ⟨(((Pk.big8 num ++ [UInt8.ofNat half]) ++ Pk.big8 Z) ++ List.replicate 103 0).toArray⟩) W := add_str (by simp [l8, l8'])
  have a4 : ∀ W : World, (Op.stringOp .add ⟨(((Pk.big8 num ++ [UInt8.ofNat half]) ++ Pk.big8 Z) ++ List.replicate 103 0).toArray⟩ ⟨(Pk.big8 num).toArray⟩).run Try.prog W = .ok (.string ⟨((((Pk.big8 num ++ [UInt8.ofNat half]) ++ Pk.big8 Z) ++ List.replicate 103 0) ++ Pk.big8 num).toArray⟩) W := add_str (by simp [l8, l8'])
  have z3 : (⟨((Pk.big8 num ++ [UInt8.ofNat half]) ++ Pk.big8 Z).toArray⟩ : ByteArray).size = 17 := by show (List.toArray _).size = 17; simp [l8, l8']
  have z8 : (⟨(Pk.big8 num).toArray⟩ : ByteArray).size = 8 := by show (List.toArray _).size = 8; simp [l8]
  generalize hs4 : (⟨((((Pk.big8 num ++ [UInt8.ofNat half]) ++ Pk.big8 Z) ++ List.replicate 103 0) ++ Pk.big8 num).toArray⟩ : ByteArray) = s4 at *
  generalize hs3 : (⟨(((Pk.big8 num ++ [UInt8.ofNat half]) ++ Pk.big8 Z) ++ List.replicate 103 0).toArray⟩ : ByteArray) = s3 at *
  generalize hs2 : (⟨((Pk.big8 num ++ [UInt8.ofNat half]) ++ Pk.big8 Z).toArray⟩ : ByteArray) = s2 at *
  generalize hs1 : (⟨(Pk.big8 num ++ [UInt8.ofNat half]).toArray⟩ : ByteArray) = s1 at *
  have HP1 := fun W => hide (pbits_any num h0 W)
  have HP2 := fun W => hide (pbits_any Z hz W)
  have HB1 := fun W => one_byte W half h1
  have HRp := fun W => hide (Try.strings_Repeat ⟨#[0]⟩ 103 W (by decide) (by decide))
  rw [show (⟨#[0]⟩ : ByteArray).data.toList = [0] from rfl, rep103] at HRp
  generalize hb8 : (⟨(Pk.big8 num).toArray⟩ : ByteArray) = b8 at *
  generalize hb9 : (⟨(Pk.big8 Z).toArray⟩ : ByteArray) = b9 at *
  generalize hb1 : (⟨[UInt8.ofNat half].toArray⟩ : ByteArray) = b1 at *
  generalize hrp : (⟨(List.replicate 103 0).toArray⟩ : ByteArray) = rp at *
  clear hs1 hs2 hs3 hs4 hb8 hb9 hb1 hrp hZ l8 l8'
  go_enter Try.func46, Try.ntmps46
  go_wp2_with fail
  refine (HP1 _).out.mono ?_
  rintro e w1 ⟨rfl, hb1⟩
  have c1 : w1.cell? ⟨w.heap.size, 1, none⟩ = some (.int .u8 (half : Int)) := (hb1.cell (p := ⟨w.heap.size, 1, none⟩) (by simp)).trans (new_cell w rfl)
  have c2 : w1.cell? ⟨w.heap.size, 2, none⟩ = some (.int .i64 (sn : Int)) := (hb1.cell (p := ⟨w.heap.size, 2, none⟩) (by simp)).trans (new_cell w rfl)
  have c3 : w1.cell? ⟨w.heap.size, 3, none⟩ = some (.int .i64 (lg : Int)) := (hb1.cell (p := ⟨w.heap.size, 3, none⟩) (by simp)).trans (new_cell w rfl)
  have hlt : w.heap.size < w1.heap.size := by have := hb1.size; simp at this; omega
  have HBl : Hid (Below w.heap.size w w1) := hide ((below_alloc w _).trans (hb1.mono (by simp)))
  clear hb1
  go_wp2_with fail
  refine (HP2 _).out.mono ?_
  rintro e w2 ⟨rfl, hb2⟩
  have c1' : w2.cell? ⟨w.heap.size, 1, none⟩ = some (.int .u8 (half : Int)) := (hb2.cell (p := ⟨w.heap.size, 1, none⟩) hlt).trans c1
  have HBl2 : Hid (Below w.heap.size w w2) := hide (HBl.out.trans (hb2.mono (by omega)))
  have hlt2 : w.heap.size < w2.heap.size := Nat.lt_of_lt_of_le hlt hb2.size
  have HB1' := HB1 w2
  clear hb2 c1 c2 c3 HBl
  go_wp2_with fail
  refine (HRp _).out.mono ?_
  rintro e w3 ⟨rfl, hb3⟩
  have HBl3 : Hid (Below w.heap.size w w3) := hide ((HBl2.out.alloc (by omega) _).trans (hb3.mono (by simp; omega)))
  clear hb3
  go_wp2_with fail
  go_ret
  exact ⟨by rw [← HR.out]; rfl, HBl3.out⟩
end Go.Proofs.Yteiickpokabmoab
