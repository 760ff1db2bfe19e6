import Derived.Test.YtnhibcadenmglaaDkU
namespace Go.Proofs.Ytnhibcadenmglaa
open Go.RowKit

/-- writes laid one behind the other -/
def lays (S : List ByteArray) (R : List Wr) : List ByteArray := R.foldl (fun S r => layS S r.sec.toNat r.data) S
theorem lays_len (S : List ByteArray) (R : List Wr) : (lays S R).length = S.length := by
  induction R generalizing S with
  | nil => rfl
  | cons r R ih => exact (ih _).trans (layS_len _ _ _)
theorem lays_take {R : List Wr} {i : Nat} (h : i < R.length) (S : List ByteArray) : lays S (R.take (i + 1)) = layS (lays S (R.take i)) R[i].sec.toNat R[i].data := by
  unfold lays
  rw [List.take_succ_eq_append_getElem h, List.foldl_append]
  rfl
/-- what Cut answers -/
def cutS (l : List ByteArray) (R : List Wr) (n b : Nat) : List ByteArray :=
  match R[n]? with
  | some r => layS (lays l (R.take n)) r.sec.toNat (r.data.extract 0 b)
  | none => lays l (R.take n)
theorem cutS_len (l : List ByteArray) (R : List Wr) (n b : Nat) : (cutS l R n b).length = l.length := by
  unfold cutS
  split
  · rw [layS_len, lays_len]
  · rw [lays_len]

theorem lay_dk {base : Nat} {w : World} {b : Nat} {F : Nat → Prop} {S : List ByteArray} (h : Dk base w b F (fresh S)) (x : Int) (data : ByteArray) (hk : 0 ≤ x ∧ x < (S.length : Int)) (hd : data.size ≤ 128) :
    Calls Try.prog 38 #[.pointer (some ⟨b, 0, none⟩), .int .i64 x, .string data] w fun e w' => e = .returned (.tuple #[]) ∧ Dk base w' b F (fresh (layS S x.toNat data)) ∧ Mv F F w w' := by
  obtain ⟨vs, vr, h, rfl⟩ := h
  obtain ⟨k, rfl⟩ : ∃ k : Nat, x = (k : Int) := ⟨x.toNat, by omega⟩
  refine (lay_any h k data (by show k < S.length; omega) hd).mono ?_
  rintro e w1 ⟨rfl, h1, h2⟩
  exact ⟨rfl, ⟨vs, vr, h1, rfl⟩, h2⟩

set_option maxHeartbeats 1000000 in
set_option maxRecDepth 8000 in
theorem cut_no {w : World} {ad ad2 : Option Addr} {ab ao cap ab2 ao2 cap2 : Nat} {l : List ByteArray} {R : List Wr} {n b : Int} (h : Rs w ad ab ao l) (h2 : Rw w ad2 ab2 ao2 R) (hl : l.length ≤ 8796093021952) (hR : R.length ≤ 5864062014634) (hE : cutE l R n b ≠ 0) :
    Calls Try.prog 16 #[.slice ad l.length cap, .slice ad2 R.length cap2, .int .i64 n, .int .i64 b] w fun e w' => e = .returned (.tuple #[.slice none 0 0, .int .i64 (cutE l R n b)]) ∧ Below w.heap.size w w' := by
  have HC := hide (checkCut_any (cap := cap) (cap2 := cap2) (n := n) (b := b) h h2 hl hR)
  generalize cutE l R n b = E at *
  have b0 : (E == 0) = false := by simpa using hE
  have b1 : (E != 0) = true := by simpa using hE
  clear h h2
  go_enter Try.func16, Try.ntmps16
  go_wp2_with (go_at_call 37; refine HC.out.mono ?_; rintro e w1 ⟨rfl, hb1⟩; have HB1 := hide hb1; clear hb1)
  go_ret2
  exact ⟨rfl, HB1.out⟩

set_option maxHeartbeats 1000000 in
set_option maxRecDepth 8000 in
theorem cut_yes {w : World} {ad ad2 : Option Addr} {ab ao cap ab2 ao2 cap2 : Nat} {l : List ByteArray} {R : List Wr} {n b : Nat} (h : Rs w ad ab ao l) (h2 : Rw w ad2 ab2 ao2 R) (hl : l.length ≤ 8796093021952) (hR : R.length ≤ 5864062014634) (hcap : R.length ≤ cap2) (hcm : cap2 ≤ 9223372036854775807) (hE : cutE l R (n : Int) (b : Int) = 0) :
    Calls Try.prog 16 #[.slice ad l.length cap, .slice ad2 R.length cap2, .int .i64 (n : Int), .int .i64 (b : Int)] w fun e w' => ∃ ad' cap' ab', e = .returned (.tuple #[.slice ad' l.length cap', .int .i64 0]) ∧ Rs w' ad' ab' 0 (cutS l R n b) ∧ w.heap.size ≤ ab' ∧ Below w.heap.size w w' := by
  have HC := hide (checkCut_any (cap := cap) (cap2 := cap2) (n := (n : Int)) (b := (b : Int)) h h2 hl hR)
  rw [hE] at HC
  obtain ⟨⟨h8, hp, hq⟩, hs, hda, hcn⟩ := cutE_ok hE
  unfold cutN at hcn
  have hn : n ≤ R.length := by omega
  have hb : b ≤ 128 := by omega
  have hz : n = R.length → b = 0 := by omega
  have HZ := hide hz
  have HS := hide hs
  have HDA := hide hda
  have H := hide h
  have H2 := hide h2
  have H8 := hide h8
  clear h h2 hcn hE hz hs hda h8
  have hnc : (n : Int) ≤ (cap2 : Int) := by omega
  go_enter Try.func16, Try.ntmps16
  go_wp2_with fail
  refine HC.out.mono ?_
  rintro e w1 ⟨rfl, hb1⟩
  have HB1 := hide hb1
  have HL := hide (loaded_any (cap := cap) (H.out.below hb1) H8.out hp hq)
  clear hb1 HC
  go_wp2_with fail
  refine HL.out.mono ?_
  rintro e w2 ⟨bk, F, rfl, hD2, hb2⟩
  have HD2 := hide (hD2.lower HB1.out.size)
  have HB2 := hide (HB1.out.trans (below_up hb2 HB1.out.size))
  clear hD2 hb2 HL HB1
  go_wp2_with fail
  go_loopw [28] (fun u wr => ∃ (i : Nat), u = .int .i64 (i : Int) ∧ i ≤ n ∧ Hid (Dk w.heap.size wr bk F (fresh (lays l (R.take i)))) ∧ Hid (Below w.heap.size w wr)) (fun u _ => (n - (intOf u).toNat))
  case atStart => exact ⟨0, rfl, Nat.zero_le _, HD2, HB2⟩
  case round =>
    obtain ⟨i, rfl, hi, HD, HB⟩ := hrel
    by_cases hil : i < n
    · have hiR : i < R.length := by omega
      have h2' := H2.out.below HB.out
      have c0 := h2'.sec i hiR
      have c1 := h2'.data i hiR
      have ea := h2'.at_ (by omega)
      have hsx := secs_get HS.out hiR
      have hdx := data_get HDA.out hiR
      have ht := lays_take hiR l
      generalize R[i] = r at *
      obtain ⟨x, y⟩ := r
      simp only at c0 c1 hsx hdx ht
      subst ea
      have HLa := hide (lay_dk (HD.out.alloc (.cells #[.int .i64 x, .string y] 50)) x y (by rw [lays_len]; exact hsx) (by omega))
      rw [← ht] at HLa
      have HB' := hide (HB.out.alloc HB.out.size (.cells #[.int .i64 x, .string y] 50))
      have HFL := hide HD.out.ftlow
      clear h2' hsx hdx ht
      go_wp2_with (go_at_call 38; refine HLa.out.mono ?_; rintro e w3 ⟨rfl, hD3, hM3⟩; have HD3 := hide hD3; have HB3 := hide (HB'.out.trans (hM3.below HB'.out.size HFL.out)); clear hD3 hM3)
      exact ⟨⟨i + 1, by go_num, by omega, HD3, HB3⟩, by simp [intOf]; omega⟩
    · have ei : n = i := by omega
      subst ei
      clear hi hil
      by_cases hnR : n < R.length
      · have h2' := H2.out.below HB.out
        have c0 := h2'.sec n hnR
        have c1 := h2'.data n hnR
        have ea := h2'.at_ (by omega)
        have hsx := secs_get HS.out hnR
        have hdx := data_get HDA.out hnR
        have KC : Hid (∀ w3, Below w.heap.size w w3 → w3.cell? ⟨ab2, ao2 + n * 2, none⟩ = some (.int .i64 R[n].sec) ∧ w3.cell? ⟨ab2, ao2 + n * 2 + 1, none⟩ = some (.string R[n].data)) := fun w3 hb => ⟨(H2.out.below hb).sec n hnR, (H2.out.below hb).data n hnR⟩
        have hcs : cutS l R n b = layS (lays l (R.take n)) R[n].sec.toNat (R[n].data.extract 0 b) := by unfold cutS; rw [List.getElem?_eq_getElem hnR]
        generalize R[n] = r at *
        obtain ⟨x, y⟩ := r
        simp only at c0 c1 hsx hdx hcs KC
        subst ea
        have HLa := hide (lay_dk HD.out.drew x (y.extract 0 b) (by rw [lays_len]; exact hsx) (by rw [ext_size]; omega))
        rw [← hcs] at HLa
        have hby : (b : Int) ≤ 128 := by omega
        have hb00 : (0 : Int) ≤ (b : Int) := by omega
        have HFL := hide HD.out.ftlow
        have HCL : Hid ((cutS l R n b).length = l.length) := cutS_len _ _ _ _
        clear h2' hsx hcs
        go_wp2_with fail
        go_region_held3 (fun w' => w'.cell? ⟨ab2, ao2 + n * 2, none⟩ = some (.int .i64 x) ∧ w'.cell? ⟨ab2, ao2 + n * 2 + 1, none⟩ = some (.string y)) (go_keep) (first
          | (go_at_call 38; refine HLa.out.mono ?_; rintro e w3 ⟨rfl, hD3, hM3⟩; have HD3 := hide hD3; have HB3 := hide (HB.out.trans (below_drew (hM3.below HB.out.size HFL.out))); obtain ⟨k0, k1⟩ := KC.out w3 HB3.out; clear hD3 hM3))
        have hsc := sectors_rs HD3.out
        rw [show (fresh (cutS l R n b)).S = cutS l R n b from rfl, HCL.out] at hsc
        have HSC := hide hsc
        clear hsc
        go_wp2_with (go_at_call 22; refine HSC.out.mono ?_; rintro e w4 ⟨ad4, cap4, ab4, rfl, hr4, hab4, hb4⟩; have HR4 := hide hr4; have HAB := hide hab4; have HB4 := hide (HB3.out.trans (below_up hb4 HB3.out.size)); clear hr4 hab4 hb4)
        go_ret2
        exact ⟨_, _, _, rfl, HR4.out, Nat.le_trans HB3.out.size HAB.out, HB4.out⟩
      · have ei : R.length = n := by omega
        have hcs : cutS l R n b = lays l (R.take n) := by unfold cutS; rw [List.getElem?_eq_none (by omega)]
        rw [← hcs] at HD
        have hsc := sectors_rs HD.out
        rw [show (fresh (cutS l R n b)).S = cutS l R n b from rfl, cutS_len] at hsc
        have HSC := hide hsc
        have b5 : decide ((n : Int) < (R.length : Int)) = false := by simp; omega
        clear hsc hcs ei
        go_wp2_with (go_at_call 22; refine HSC.out.mono ?_; rintro e w4 ⟨ad4, cap4, ab4, rfl, hr4, hab4, hb4⟩; have HR4 := hide hr4; have HAB := hide hab4; have HB4 := hide (HB.out.trans (below_up hb4 HB.out.size)); clear hr4 hab4 hb4)
        go_ret2
        exact ⟨_, _, _, rfl, HR4.out, Nat.le_trans HB.out.size HAB.out, HB4.out⟩
end Go.Proofs.Ytnhibcadenmglaa
