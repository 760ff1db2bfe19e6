import Derived.Test.YtnhibcadenmglaaDkI
namespace Go.Proofs.Ytnhibcadenmglaa
open Go.RowKit

theorem Try.infoB : (Try.prog.info? 5).map (fun i => (i.zero, i.size, i.bytes)) = some (some (.int .u8 0), 1, 1) := by kernel_rfl
def z127 : ByteArray := ⟨Array.replicate 127 0⟩
theorem z127_size : z127.size = 127 := by simp [z127, ByteArray.size]
theorem made_u8 (n : Nat) : madeCells (Value.int .u8 0).cells (n * 1) = Array.replicate n (.int .u8 0) := by
  apply Array.ext
  · rw [size_madeCells]; simp
  · intro i h1 h2
    simp [madeCells, Value.cells, Nat.mod_one]

theorem conv_zeros (n : Nat) (W : World) : (convert 72 9 (.slice (some ⟨W.heap.size, 0, none⟩) n n)).run Try.prog (W.alloc (.cells (Array.replicate n (.int .u8 0)) 5)) = .ok (.string ⟨Array.replicate n 0⟩) (W.alloc (.cells (Array.replicate n (.int .u8 0)) 5)) := by
  have e := run_convert_bytes_back (P := Try.prog) (W.alloc (.cells (Array.replicate n (.int .u8 0)) 5)) 72 9 5 ⟨W.heap.size, 0, none⟩ n (List.replicate n 0) Try.underlying72 Try.underlying5 Try.underlying9 (by
    intro j hj
    rw [Addr.add_lit, cell_of_row _ _ _ _ _ _ (heap_alloc_new W _)]
    rw [List.length_replicate] at hj
    simp [hj])
  rw [List.length_replicate] at e
  rw [e]
  simp
theorem layS_get {S : List ByteArray} (h : A128 S) {k : Nat} (hk : k < S.length) {x : ByteArray} (hx : x.size = 128) : (layS S k x).getD k ByteArray.empty = x := by
  have e : S.getD k ByteArray.empty = S[k] := by rw [List.getD_eq_getElem?_getD, List.getElem?_eq_getElem hk]; rfl
  unfold layS
  rw [e, laid_all (by rw [hx, h.get hk]), List.getD_eq_getElem?_getD, List.getElem?_set_self hk]; rfl
theorem layS_far {S : List ByteArray} {k j : Nat} (h : j ≠ k) (x : ByteArray) : (layS S k x).getD j ByteArray.empty = S.getD j ByteArray.empty := by
  unfold layS
  rw [List.getD_eq_getElem?_getD, List.getElem?_set_ne (Ne.symm h), ← List.getD_eq_getElem?_getD]
theorem DS.read_live {d : DS} (h : d.dead = false) {k : Int} (hk : 0 ≤ k ∧ k < (d.S.length : Int)) : d.read k = (d.S.getD k.toNat ByteArray.empty, 0) := by
  unfold DS.read; rw [if_neg (by simp [h]), if_neg (by simpa using hk)]
theorem DS.read_none {d : DS} (h : d.dead = false) {k : Int} (hk : ¬ (0 ≤ k ∧ k < (d.S.length : Int))) : d.read k = (ByteArray.empty, 40) := by
  unfold DS.read; rw [if_neg (by simp [h]), if_pos hk]
/-- what fixed does -/
theorem fixed_math {A : ByteArray} (hA : A.size = 128) : ∃ D, (fresh (List.replicate 3 zsec)).write 1 A = (0, D) ∧ D.read 1 = (A, 0) ∧ D.read 3 = (ByteArray.empty, 40) := by
  have hl : (fresh (List.replicate 3 zsec)).S.length = 3 := rfl
  refine ⟨_, DS.write_all rfl (by rw [hl]; decide) hA (by decide), ?_, ?_⟩
  · rw [DS.read_live rfl (by show (0 : Int) ≤ 1 ∧ (1 : Int) < ((layS _ _ _).length : Int); rw [layS_len, hl]; decide)]
    show ((layS (List.replicate 3 zsec) 1 A).getD 1 ByteArray.empty, (0 : Int)) = _
    rw [layS_get (rep_128 3) (by decide) hA]
  · rw [DS.read_none rfl (by show ¬ ((0 : Int) ≤ 3 ∧ (3 : Int) < ((layS _ _ _).length : Int)); rw [layS_len, hl]; decide)]

set_option maxHeartbeats 1000000 in
set_option maxRecDepth 8000 in
theorem fixed_true (w : World) : Calls Try.prog 12 #[] w fun e w' => e = .returned (.bool true) ∧ Below w.heap.size w w' := by
  obtain ⟨i0, hi0, hz0, hz1, hz2⟩ := info_parts Try.infoB
  have hmk : ∀ W : World, (Instr.makeSlice 72 (.int .i64 127) (.int .i64 127)).run Try.prog W = .ok (.slice (some ⟨W.heap.size, 0, none⟩) 127 127) (W.alloc (.cells (Array.replicate 127 (.int .u8 0)) 5)) := by
    intro W
    have := run_make (P := Try.prog) W 72 5 i0 _ Try.underlying72 hi0 hz0 .i64 .i64 127 127 (by decide) (Int.le_refl _) (by rw [hz2]; decide) (by decide)
    rw [show ((127 : Int)).toNat = 127 from rfl, hz1, made_u8] at this
    exact this
  have hcv : ∀ W : World, (convert 72 9 (.slice (some ⟨W.heap.size, 0, none⟩) 127 127)).run Try.prog (W.alloc (.cells (Array.replicate 127 (.int .u8 0)) 5)) = .ok (.string z127) (W.alloc (.cells (Array.replicate 127 (.int .u8 0)) 5)) := by
    exact conv_zeros 127
  generalize hA : (Array.replicate 127 (Value.int .u8 0)) = X at hmk hcv
  generalize hZ : z127 = Z at hcv
  have HZ := hide hZ
  have hzs : Z.size = 127 := by rw [← hZ]; exact z127_size
  clear hA hZ hi0 hz0 hz1 hz2 i0
  go_enter Try.func12, Try.ntmps12
  go_wp2_with fail
  refine (new_any (n := 3) (by decide) (by decide)).mono ?_
  rintro e w1 ⟨b, F, rfl, hD, hB⟩
  have HD := hide hD
  have HB := hide hB
  have HS := hide (size_any hD)
  rw [show ((fresh (List.replicate 3 zsec)).S.length : Int) = 3 from rfl] at HS
  clear hD hB
  go_wp2_with (go_at_call 26; refine HS.out.mono ?_; rintro e w2 ⟨rfl, rfl⟩)
  obtain ⟨D, hW, hr1, hr3⟩ := fixed_math (A := Z ++ ⟨#[97]⟩) (by rw [ByteArray.size_append, hzs]; rfl)
  have HW := hide (write_any (HD.out.alloc (.cells X 5)) 1 (Z ++ ⟨#[97]⟩) (by decide))
  rw [hW] at HW
  have HR1 := hide hr1
  have HR3 := hide hr3
  have HB2 := hide (HB.out.alloc HB.out.size (.cells X 5))
  clear hr1 hr3 hW HB HS hmk hcv HZ
  generalize Z ++ ⟨#[97]⟩ = A at *
  refine HW.out.mono ?_
  rintro e w3 ⟨rfl, F3, hD3, hM3⟩
  have HD3 : Hid (Dk w.heap.size w3 b F3 D) := hD3
  have HB3 := hide (HB2.out.trans (hM3.below HB2.out.size HD.out.ftlow))
  have HQ1 := hide (read_any hD3 1)
  have HQ3 := hide (read_any hD3 3)
  simp only [HR1.out] at HQ1
  simp only [HR3.out] at HQ3
  clear hD3 hM3 HW HB2 HR1 HR3 HD
  go_wp2_with fail
  refine HQ1.out.mono ?_
  rintro e w4 ⟨rfl, rfl⟩
  go_wp2_with fail
  refine HQ3.out.mono ?_
  rintro e w5 ⟨rfl, rfl⟩
  go_wp2
  go_ret
  exact ⟨rfl, HB3.out⟩
end Go.Proofs.Ytnhibcadenmglaa
