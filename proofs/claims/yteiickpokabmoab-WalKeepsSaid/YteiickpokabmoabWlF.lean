import Derived.Test.YteiickpokabmoabWlE
namespace Go.Proofs.Yteiickpokabmoab
open Go.RowKit Go.Shelf
open Wl (Hd WS Log)

def secs (l : List UInt8) (m : Nat) : List ByteArray := (List.range m).map (Wl.sect l)
theorem secs_drop {l : List UInt8} {m k : Nat} (hk : k < m) : (secs l m).drop k = Wl.sect l k :: (secs l m).drop (k + 1) := by
  unfold secs
  rw [List.drop_eq_getElem_cons (by simpa using hk)]; simp
theorem secs_end (l : List UInt8) (m : Nat) : (secs l m).drop m = [] := List.drop_eq_nil_of_le (by simp [secs])
theorem sect_size {l : List UInt8} {m k : Nat} (h : l.length = m * 128) (hk : k < m) : (Wl.sect l k).size = 128 := by
  show (List.toArray _).size = 128
  simp; omega
theorem wsec_cons (d : D.DS) (k : Nat) (s : ByteArray) (l : List ByteArray) : Wl.wsec d k (s :: l) = if (d.write k s).1 ≠ 0 then d.write k s else Wl.wsec (d.write k s).2 (k + 1) l := rfl
theorem write_R (d : D.DS) (k : Int) (s : ByteArray) : (d.write k s).2.R.length ≤ d.R.length + 1 := by
  unfold D.DS.write
  (repeat' split) <;> simp
theorem Bf.mv {w w' : World} {g : Nat} {l : List UInt8} {F F' : Nat → Prop} (h : Bf w g l) (hm : D.Mv F F' w w') (hn : ¬ F g) : Bf w' g l := (hm.block g (lt_of_block h) hn).trans h
set_option maxHeartbeats 1000000 in
theorem writeSectors_any {base : Nat} {w : World} {b g first m : Nat} {F : Nat → Prop} {d : D.DS} {l : List UInt8} (h : D.Dk base w b F d) (hl : l.length = m * 128) (hb : Bf w g l) (hg : ¬ F g) (hm : m ≤ 1000) (hf : first ≤ 100000) (hR : (d.R.length + m) * 24 ≤ 140737488355328) :
    Calls Try.prog 49 #[.pointer (some ⟨b, 0, none⟩), .int .i64 (first : Int), .slice (some ⟨g, 0, none⟩) (m * 128) (m * 128)] w fun e w' => e = .returned (.int .i64 (Wl.wsec d first (secs l m)).1) ∧ ∃ F', D.Dk base w' b F' (Wl.wsec d first (secs l m)).2 ∧ D.Mv F F' w w' := by
  have HD := hide h
  have HBf := hide hb
  have hgl : g < w.heap.size := lt_of_block hb
  have hq : Int.tdiv ((m * 128 : Nat) : Int) 128 = (m : Int) := by rw [Int.tdiv_eq_ediv_of_nonneg (by omega)]; omega
  clear h hb
  obtain ⟨R, hRR⟩ : ∃ R, Wl.wsec d first (secs l m) = R := ⟨_, rfl⟩
  have HRR := hide hRR
  rw [hRR]
  clear hRR
  go_enter Try.func49, Try.ntmps49
  go_wp2_with fail
  go_loopw [12] (fun s wr => ∃ (k : Nat) (dk : D.DS) (Fk : Nat → Prop), k ≤ m ∧ s = .int .i64 (k : Int) ∧ Hid (Wl.wsec dk (first + k) ((secs l m).drop k) = R) ∧ Hid (dk.R.length ≤ d.R.length + k) ∧ Hid (D.Dk base wr b Fk dk) ∧ Hid (D.Mv F Fk w wr)) (fun s _ => m - (intOf s).toNat)
  case atStart => exact ⟨0, d, F, Nat.zero_le _, rfl, HRR, hide (Nat.le_refl _), HD, hide (D.Mv.refl _)⟩
  case round =>
    obtain ⟨k, dk, Fk, hk, rfl, HW, HL, HK, HM⟩ := hrel
    by_cases hkl : k < m
    · have hki : (k : Int) < (m : Int) := by omega
      have hbk : Bf wr g l := HBf.out.mv HM.out hg
      have hgk : ¬ Fk g := fun h => by rcases HM.out.foot g h with h2 | h2; exact hg h2; omega
      have HC := hide (cut_any g (m * 128) k (by omega) (by omega) wr)
      have hz := sect_size hl hkl
      have hcv := run_convert_bytes_back (P := Try.prog) wr 59 9 5 ⟨g, k * 128, none⟩ 128 ((l.drop (k * 128)).take 128) Try.underlying59 Try.underlying5 Try.underlying9 (by
        intro j hj
        rw [Addr.add_lit]
        unfold World.cell?
        rw [show wr.heap[(⟨g, k * 128 + j, none⟩ : Addr).block]? = wr.heap[g]? from rfl, hbk]
        show (bc l).toArray[k * 128 + j]? = _
        have hj1 : j < 128 := by have := hj; simp at this; omega
        have hj2 : k * 128 + j < l.length := by omega
        simp [bc, hj2])
      rw [show ((l.drop (k * 128)).take 128).length = 128 by simp; omega] at hcv
      have HS : Hid ((⟨((l.drop (k * 128)).take 128).toArray⟩ : ByteArray) = Wl.sect l k) := hide rfl
      rw [HS.out] at hcv
      have HWr := hide (D.write_any HK.out ((first : Int) + (k : Int)) (Wl.sect l k) (by have := HL.out; omega))
      have HW2 := HW.out
      rw [secs_drop hkl, wsec_cons, show (((first + k : Nat)) : Int) = (first : Int) + (k : Int) by simp] at HW2
      have HL2 := write_R dk ((first : Int) + (k : Int)) (Wl.sect l k)
      have HL3 := HL.out
      generalize Wl.sect l k = s at *
      generalize dk.write ((first : Int) + (k : Int)) s = X at *
      obtain ⟨xe, xd⟩ := X
      simp only at HW2 HL2 HWr
      have HWh := hide HW2
      have HLh : Hid (xd.R.length ≤ d.R.length + (k + 1)) := hide (by omega)
      clear HW HL HL2 HL3 hz HBf hbk HS HW2
      go_wp2_with fail
      refine HC.out.mono ?_
      rintro e w' ⟨rfl, rfl⟩
      go_wp2_with fail
      refine HWr.out.mono ?_
      rintro e w2 ⟨rfl, F2, hD2, hM2⟩
      have HD2 := hide hD2
      have HM2 := hide (HM.out.trans hM2)
      clear hD2 hM2 HWr
      by_cases hx : xe = 0
      · subst hx
        have HW3 : Hid (Wl.wsec xd (first + (k + 1)) ((secs l m).drop (k + 1)) = R) := hide (by have := HWh.out; rw [if_neg (by simp)] at this; exact this)
        clear HWh
        go_wp2_with fail
        go_roundw
        case rel => exact ⟨k + 1, xd, F2, by omega, rfl, HW3, HLh, HD2, HM2⟩
        case measure => simp only [intOf]; omega
      · have HW3 : Hid ((xe, xd) = R) := hide (by have := HWh.out; rw [if_pos hx] at this; exact this)
        have bx : (xe != 0) = true := by simpa using hx
        clear HWh
        go_wp2_with fail
        go_ret
        exact ⟨by rw [← HW3.out]; rfl, F2, by rw [← HW3.out]; exact HD2.out, HM2.out⟩
    · have hki : ¬ (k : Int) < (m : Int) := by omega
      obtain rfl : k = m := by omega
      have HW3 : Hid ((0, dk) = R) := hide (by have := HW.out; rw [secs_end] at this; exact this)
      clear HW
      go_wp2_with fail
      go_ret
      exact ⟨by rw [← HW3.out]; rfl, Fk, by rw [← HW3.out]; exact HK.out, HM.out⟩
end Go.Proofs.Yteiickpokabmoab
