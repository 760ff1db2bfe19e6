import Derived.Test.YteiickpokabmoabWlD
namespace Go.Proofs.Yteiickpokabmoab
open Go.RowKit Go.Shelf
open Wl (Hd WS Log)

theorem sc_bc (s : ByteArray) : D.sc s = bc s.data.toList := rfl
theorem flat_cons (s : ByteArray) (S : List ByteArray) : Wl.flat (s :: S) = s.data.toList ++ Wl.flat S := by simp [Wl.flat]
theorem flat_len {S : List ByteArray} (h : D.A128 S) : (Wl.flat S).length = S.length * 128 := by
  induction S with
  | nil => rfl
  | cons s S ih => rw [flat_cons, List.length_append, ih h.tail, ← D.size_list, h.head, List.length_cons]; omega
theorem drop128 {S : List ByteArray} (h : D.A128 S) (k : Nat) : D.A128 (S.drop k) := fun s hs => h s (List.mem_of_mem_drop hs)
theorem flat_at {S : List ByteArray} (h : D.A128 S) {k : Nat} (hk : k < S.length) : (Wl.flat S).take ((k + 1) * 128) = (Wl.flat S).take (k * 128) ++ (S[k]).data.toList := by
  induction k generalizing S with
  | zero =>
    cases S with
    | nil => simp at hk
    | cons s S =>
      rw [flat_cons, show (0 + 1) * 128 = s.data.toList.length by rw [← D.size_list, h.head], List.take_append_of_le_length (Nat.le_refl _), List.take_length]; simp
  | succ k ih =>
    cases S with
    | nil => simp at hk
    | cons s S =>
      have hl : s.data.toList.length = 128 := by rw [← D.size_list, h.head]
      rw [flat_cons, show (k + 1 + 1) * 128 = s.data.toList.length + (k + 1) * 128 by rw [hl]; omega, show (k + 1) * 128 = s.data.toList.length + k * 128 by rw [hl]; omega, List.take_length_add_append, List.take_length_add_append,
        show s.data.toList.length + k * 128 = (k + 1) * 128 by rw [hl]; omega, ih h.tail (by simpa using hk), List.append_assoc]
      rfl
theorem setRow_at {w : World} {g : Nat} {cs : Array Value} {t : TypeId} {fr : Nat × Nat} (h : w.heap[g]? = some (.cells cs t fr)) (ds : Array Value) : (w.setRow g ds).heap[g]? = some (.cells ds t fr) := by
  have hg := lt_of_block h
  simp only [World.setRow, Array.getElem?_modify, h]; simp
theorem below_setRow {w w' : World} {B g : Nat} (h : Below B w w') (hg : B ≤ g) (ds : Array Value) : Below B w (w'.setRow g ds) :=
  ⟨h.os, h.tape, h.output, by rw [D.setRow_size]; exact h.size, fun k hk => (D.setRow_far _ _ _ _ (by omega)).trans (h.block k hk)⟩
/-- what is read, and noughts -/
def bufR (S : List ByteArray) (m k : Nat) : List UInt8 := (Wl.flat S).take (k * 128) ++ List.replicate ((m - k) * 128) 0
theorem bufR_len {S : List ByteArray} (h : D.A128 S) {m k : Nat} (hk : k ≤ m) (hm : m ≤ S.length) : (bufR S m k).length = m * 128 := by
  unfold bufR; rw [List.length_append, List.length_take, flat_len h, List.length_replicate]; omega
theorem bufR_step {S : List ByteArray} (h : D.A128 S) {m k : Nat} (hk : k < m) (hm : m ≤ S.length) : splice (bc (bufR S m k)) (k * 128) (bc (S[k]'(by omega)).data.toList) = bc (bufR S m (k + 1)) := by
  have hl : (S[k]'(by omega)).data.toList.length = 128 := by rw [← D.size_list, h.get (by omega)]
  have ht : ((Wl.flat S).take (k * 128)).length = k * 128 := by rw [List.length_take, flat_len h]; omega
  unfold bufR splice
  rw [flat_at h (show k < S.length by omega), bc_append, bc_append, bc_append]
  rw [List.take_append_of_le_length (by rw [bc_len, ht]; omega), List.take_of_length_le (by rw [bc_len, ht]; omega), bc_len, hl, List.drop_append, List.drop_eq_nil_of_le (by rw [bc_len, ht]; omega), bc_len, ht, List.nil_append]
  rw [← List.append_assoc]
  congr 1
  unfold bc
  rw [List.map_replicate, List.map_replicate, List.drop_replicate]
  congr 1; omega
set_option maxHeartbeats 1000000 in
theorem readBytes_any {base : Nat} {w : World} {b : Nat} {F : Nat → Prop} {d : D.DS} (h : D.Dk base w b F d) (hd : d.dead = false) (first n : Nat) (hn : n ≤ 100000) (hf : first + Wl.up n ≤ d.S.length) :
    Calls Try.prog 52 #[.pointer (some ⟨b, 0, none⟩), .int .i64 (first : Int), .int .i64 (n : Int)] w fun e w' => e = .returned (.string ⟨((Wl.flat (d.S.drop first)).take n).toArray⟩) ∧ Below w.heap.size w w' := by
  have HD := hide h
  have hS := h.ok.s1
  have H8 : Hid (D.A128 (d.S.drop first)) := hide (drop128 h.ok.s128 _)
  have hm : Wl.up n ≤ (d.S.drop first).length := by rw [List.length_drop]; omega
  have hq : Int.tdiv ((Wl.up n * 128 : Nat) : Int) 128 = (Wl.up n : Int) := by rw [Int.tdiv_eq_ediv_of_nonneg (by omega)]; omega
  have HSF := hide (sectorsFor_any n hn w)
  have hun : n ≤ Wl.up n * 128 := by unfold Wl.up; omega
  have hub : Wl.up n ≤ 1000 := by unfold Wl.up; omega
  have H0 : Hid (bc (List.replicate (Wl.up n * 128) 0) = bc (bufR (d.S.drop first) (Wl.up n) 0)) := hide (by unfold bufR; simp)
  have HR : Hid (∀ k, k < Wl.up n → d.read (((first : Int) + (k : Int))) = ((d.S.drop first)[k]!, 0)) := hide fun k hk => by
    unfold D.DS.read
    rw [if_neg (by simp [hd]), if_neg (by omega), show ((first : Int) + (k : Int)).toNat = first + k by omega, List.getD_eq_getElem?_getD, getElem!_pos (d.S.drop first) k (by omega), List.getElem?_eq_getElem (by omega), List.getElem_drop]; rfl
  have HFN : Hid ((Wl.flat (d.S.drop first)).take n = (bufR (d.S.drop first) (Wl.up n) (Wl.up n)).take n) := hide (by
    unfold bufR; rw [Nat.sub_self, Nat.zero_mul, List.replicate_zero, List.append_nil, List.take_take, Nat.min_eq_left hun])
  rw [HFN.out]
  generalize d.S.drop first = S at *
  generalize hM : Wl.up n = M at *
  clear h HFN hM
  go_enter Try.func52, Try.ntmps52
  go_wp2_with fail
  refine HSF.out.mono ?_
  rintro e w1 ⟨rfl, rfl⟩
  rw [H0.out]
  have hgs : w.heap.size < (w.alloc (.cells (bc (bufR S M 0)).toArray 5)).heap.size := by simp
  go_wp2_with fail
  go_loopw [16] (fun s wr => ∃ k : Nat, k ≤ M ∧ s = .int .i64 (k : Int) ∧ Hid (Bf wr w.heap.size (bufR S M k)) ∧ Hid (Below w.heap.size w wr)) (fun s _ => M - (intOf s).toNat)
  case atStart => exact ⟨0, Nat.zero_le _, rfl, hide (heap_alloc_new w _), hide (below_alloc _ _)⟩
  case round =>
    obtain ⟨k, hk, rfl, HK, HB⟩ := hrel
    by_cases hkl : k < M
    · have hki : (k : Int) < (M : Int) := by omega
      have HRd := hide (D.read_any (HD.out.below HB.out) ((first : Int) + (k : Int)))
      rw [HR.out k hkl] at HRd
      have hz : Hid ((S[k]!).size = 128) := hide (by rw [getElem!_pos S k (by omega)]; exact H8.out.get _)
      have HC := hide (cut_any w.heap.size (M * 128) k (by omega) (by omega) wr)
      have HCp := D.run_copy_str (P := Try.prog) wr 59 9 3 5 w.heap.size (k * 128) 128 128 (S[k]!) (bc (bufR S M k)).toArray 5 Try.underlying59 D.Try.infoU HK.out (by rw [hz.out]; omega) (by rw [hz.out, List.size_toArray, bc_len, bufR_len H8.out (by omega) hm]; omega)
      rw [show (bc (bufR S M k)).toArray.toList = bc (bufR S M k) by simp, sc_bc, getElem!_pos S k (by omega), bufR_step H8.out hkl hm] at HCp
      rw [getElem!_pos S k (by omega)] at HRd
      have HK2 : Hid (Bf (wr.setRow w.heap.size (bc (bufR S M (k + 1))).toArray) w.heap.size (bufR S M (k + 1))) := hide (setRow_at HK.out _)
      have HB2 : Hid (Below w.heap.size w (wr.setRow w.heap.size (bc (bufR S M (k + 1))).toArray)) := hide (below_setRow HB.out (Nat.le_refl _) _)
      generalize (bc (bufR S M (k + 1))).toArray = X at *
      generalize S[k] = s at *
      clear HK HB hz
      go_wp2_with fail
      refine HRd.out.mono ?_
      rintro e w' ⟨rfl, rfl⟩
      go_wp2_with fail
      refine HC.out.mono ?_
      rintro e w' ⟨rfl, rfl⟩
      go_wp2_with fail
      go_roundw
      case rel => exact ⟨k + 1, by omega, rfl, HK2, HB2⟩
      case measure => simp only [intOf]; omega
    · have hki : ¬ (k : Int) < (M : Int) := by omega
      obtain rfl : k = M := by omega
      have hlen : ((bufR S k k).take n).length = n := by rw [List.length_take, bufR_len H8.out (Nat.le_refl _) hm]; omega
      have hcv := run_convert_bytes_back (P := Try.prog) wr 59 9 5 ⟨w.heap.size, 0, none⟩ (k * 128) ((bufR S k k).take n) Try.underlying59 Try.underlying5 Try.underlying9 (by
        intro j hj
        rw [Addr.add_lit, Nat.zero_add]
        unfold World.cell?
        rw [HK.out]
        show (bc (bufR S k k)).toArray[j]? = _
        rw [hlen] at hj
        have hj2 : j < (bufR S k k).length := by rw [bufR_len H8.out (Nat.le_refl _) hm]; omega
        simp [bc, hj2])
      rw [hlen] at hcv
      generalize hRR : (⟨((bufR S k k).take n).toArray⟩ : ByteArray) = R at *
      have HRR := hide hRR
      have hnq : (n : Int) ≤ ((k * 128 : Nat) : Int) := by omega
      generalize k * 128 = Q at *
      clear HK hlen HR H0 hun hq hRR
      go_wp2_with fail
      go_ret
      exact ⟨by rw [HRR.out]; rfl, HB.out⟩
end Go.Proofs.Yteiickpokabmoab
