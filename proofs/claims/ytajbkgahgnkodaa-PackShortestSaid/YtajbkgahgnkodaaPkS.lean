import Derived.Test.YtajbkgahgnkodaaPkP
namespace Go.Proofs.Ytajbkgahgnkodaa
open Go.RowKit

namespace Pk
/-- how many bits a number has -/
def blen (n : Nat) : Nat := if n = 0 then 0 else blen (n / 2) + 1
termination_by n
decreasing_by omega
theorem blen_0 : blen 0 = 0 := by rw [blen, if_pos rfl]
theorem blen_s {n : Nat} (h : n ≠ 0) : blen n = blen (n / 2) + 1 := by rw [blen, if_neg h]
theorem blen_7 {n : Nat} (h : 128 ≤ n) : blen n = blen (n / 128) + 7 := by
  rw [blen_s (by omega), blen_s (n := n / 2) (by omega), blen_s (n := n / 2 / 2) (by omega), blen_s (n := n / 2 / 2 / 2) (by omega), blen_s (n := n / 2 / 2 / 2 / 2) (by omega), blen_s (n := n / 2 / 2 / 2 / 2 / 2) (by omega), blen_s (n := n / 2 / 2 / 2 / 2 / 2 / 2) (by omega)]
  rw [show n / 2 / 2 / 2 / 2 / 2 / 2 / 2 = n / 128 by omega]
theorem blen_le (k : Nat) : ∀ n, n < 2 ^ k → blen n ≤ k := by
  induction k with
  | zero => intro n h; rw [show n = 0 by omega, blen_0]; omega
  | succ k ih =>
    intro n h
    by_cases h0 : n = 0
    · rw [h0, blen_0]; omega
    · rw [blen_s h0]
      have := ih (n / 2) (by rw [Nat.pow_succ] at h; omega)
      omega
theorem blen_pos {n : Nat} (h : n ≠ 0) : 1 ≤ blen n := by rw [blen_s h]; omega
theorem enc_blen (n : Nat) : (enc n).length = max 1 ((blen n + 6) / 7) := by
  induction n using Nat.strongRecOn with
  | ind n ih =>
    by_cases h : n < 128
    · rw [enc_lt h]
      have := blen_le 7 n h
      simp only [List.length_cons, List.length_nil]
      omega
    · rw [enc_ge h, List.length_cons, ih (n / 128) (by omega), blen_7 (n := n) (by omega)]
      have := blen_pos (n := n / 128) (by omega)
      omega
theorem enc_mono (m : Nat) : ∀ n, n ≤ m → (enc n).length ≤ (enc m).length := by
  induction m using Nat.strongRecOn with
  | ind m ih =>
    intro n h
    by_cases hn : n < 128
    · rw [enc_lt hn]; exact enc_pos m
    · rw [enc_ge hn, enc_ge (n := m) (by omega), List.length_cons, List.length_cons]
      have := ih (m / 128) (by omega) (n / 128) (by omega)
      omega
theorem enc_high (n : Nat) : ∀ i (h : i < (enc n).length), i + 1 < (enc n).length → 128 ≤ ((enc n)[i]).toNat := by
  induction n using Nat.strongRecOn with
  | ind n ih =>
    intro i h h1
    by_cases hn : n < 128
    · rw [enc_lt hn] at h1; simp at h1
    · have e := enc_ge hn
      have key : ∀ (l : List UInt8) (i : Nat) (hi : i < l.length), l = UInt8.ofNat (n % 128 + 128) :: enc (n / 128) → i + 1 < l.length → 128 ≤ (l[i]).toNat := by
        intro l i hi hl h2
        subst hl
        cases i with
        | zero => show 128 ≤ (UInt8.ofNat (n % 128 + 128)).toNat; rw [toNat_ofNat (by omega)]; omega
        | succ i => exact ih (n / 128) (by omega) i (by simpa using hi) (by simpa using h2)
      exact key _ i h e h1
theorem enc_last (n : Nat) : ∀ i (h : i < (enc n).length), i + 1 = (enc n).length → ((enc n)[i]).toNat < 128 := by
  induction n using Nat.strongRecOn with
  | ind n ih =>
    intro i h h1
    by_cases hn : n < 128
    · have key : ∀ (l : List UInt8) (i : Nat) (hi : i < l.length), l = [UInt8.ofNat n] → (l[i]).toNat < 128 := by
        intro l i hi hl
        subst hl
        have : i = 0 := by simp at hi; omega
        subst this
        show (UInt8.ofNat n).toNat < 128
        rw [toNat_ofNat (by omega)]; exact hn
      exact key _ i h (enc_lt hn)
    · have e := enc_ge hn
      have key : ∀ (l : List UInt8) (i : Nat) (hi : i < l.length), l = UInt8.ofNat (n % 128 + 128) :: enc (n / 128) → i + 1 = l.length → (l[i]).toNat < 128 := by
        intro l i hi hl h2
        subst hl
        cases i with
        | zero => have := enc_pos (n / 128); simp only [List.length_cons] at h2; omega
        | succ i => exact ih (n / 128) (by omega) i (by simpa using hi) (by simpa using h2)
      exact key _ i h e h1
end Pk

set_option maxHeartbeats 1000000 in
set_option maxRecDepth 8000 in
theorem packShortest_walk (n : Nat) (hn : n < 18446744073709551616) (m : Nat) (hm : m < 18446744073709551616) (w : World) :
    Calls Try.prog 7 #[.int .u64 (n : Int), .int .u64 (m : Int)] w fun e w' => e = .returned (.bool true) ∧ Below w.heap.size w w' := by
  have HP : Hid (∀ k : Nat, k < 18446744073709551616 → ∀ w1 : World, Calls Try.prog 10 #[.int .u64 (k : Int)] w1 fun e w' => e = .returned (.string ⟨(Pk.enc k).toArray⟩) ∧ Below w1.heap.size w1 w') := fun k hk w1 => pnum_any k hk w1
  obtain ⟨b, HB⟩ : ∃ b : ByteArray, Hid (⟨(Pk.enc n).toArray⟩ = b) := ⟨_, rfl⟩
  obtain ⟨c, HC⟩ : ∃ c : ByteArray, Hid (⟨(Pk.enc m).toArray⟩ = c) := ⟨_, rfl⟩
  have hbs : b.size = (Pk.enc n).length := by rw [← HB.out]; show (Pk.enc n).toArray.size = _; simp
  have hcs : c.size = (Pk.enc m).length := by rw [← HC.out]; show (Pk.enc m).toArray.size = _; simp
  have hten := Pk.enc_ten hn
  have hpos := Pk.enc_pos n
  have hhigh : ∀ i (h : i < b.size), i + 1 < b.size → 128 ≤ (b[i]).toNat := by
    intro i h h1
    have := Pk.enc_high n i (by omega) (by omega)
    have HB' := HB.out
    subst HB'
    exact this
  have hlast : ∀ i (h : i < b.size), i + 1 = b.size → (b[i]).toNat < 128 := by
    intro i h h1
    have := Pk.enc_last n i (by omega) (by omega)
    have HB' := HB.out
    subst HB'
    exact this
  have hmono : n ≤ m → b.size ≤ c.size := fun h => by rw [hbs, hcs]; exact Pk.enc_mono m n h
  have hsz : b.size = max 1 ((Pk.blen n + 6) / 7) := by rw [hbs]; exact Pk.enc_blen n
  have hble := Pk.blen_le 64 n hn
  rw [← hbs] at hten hpos
  clear hbs hcs
  have HS : Hid (b.size = max 1 ((Pk.blen n + 6) / 7)) := hsz
  clear hsz
  go_enter Try.func7, Try.ntmps7
  go_wp2_with fail
  refine (HP.out n hn w).mono ?_
  rintro e w1 ⟨rfl, hb1⟩
  rw [HB.out]
  go_wp2_with fail
  refine (HP.out m hm w1).mono ?_
  rintro e w2 ⟨rfl, hb2⟩
  rw [HC.out]
  go_wp2_with fail
  refine (awake_true w2).mono ?_
  rintro e w3 ⟨rfl, hb3⟩
  have HB3 : Hid (Below w.heap.size w w3) := below_tr (below_tr hb1 hb2) hb3
  clear hb1 hb2 hb3 HP HB HC
  rcases Nat.lt_or_ge m n with hnm | hnm
  · have b0 : decide ((n : Int) ≤ (m : Int)) = false := by simp; omega
    clear hmono
    go_wp2_with fail
    go_loop [7, 8] (fun u v => ∃ (k x : Nat), u = .int .i64 (k : Int) ∧ v = .int .u64 (x : Int) ∧ Hid (k + Pk.blen x = Pk.blen n) ∧ x ≤ n ∧ k ≤ 64) (fun _ v => (intOf v).toNat)
    case atStart => exact ⟨0, n, rfl, rfl, Nat.zero_add _, Nat.le_refl _, by omega⟩
    case round =>
      obtain ⟨k, x, rfl, rfl, HK, hx, hk⟩ := hrel
      by_cases hx0 : x = 0
      · have hkn : Hid (k = Pk.blen n) := (show k = _ by have := HK.out; rw [hx0, Pk.blen_0] at this; omega)
        have b2 : ¬ 0 < x := by omega
        clear hx0 HK
        go_wp2_with fail
        go_loop [9] (fun u => ∃ i : Nat, u = .int .i64 (i : Int) ∧ i + 1 ≤ b.size) (fun u => b.size - (intOf u).toNat)
        case atStart => exact ⟨0, rfl, by omega⟩
        case round =>
          obtain ⟨i, rfl, hi1⟩ := hrel
          by_cases hi2 : i + 1 < b.size
          · obtain ⟨c, hc⟩ : ∃ c : UInt8, b[i]'(by omega) = c := ⟨_, rfl⟩
            have hcb : 128 ≤ c.toNat := by rw [← hc]; exact hhigh i (by omega) hi2
            have hi3 : (i : Int) < (b.size : Int) := by omega
            have b3 : decide ((c.toNat : Int) < 128) = false := by simp; omega
            clear hhigh hlast
            go_wp2_with fail
            exact ⟨⟨i + 1, by go_num, by omega⟩, by simp [intOf]; omega⟩
          · obtain ⟨c, hc⟩ : ∃ c : UInt8, b[b.size - 1]'(by omega) = c := ⟨_, rfl⟩
            have hcb : c.toNat < 128 := by rw [← hc]; exact hlast _ (by omega) (by omega)
            have b3 : decide ((i : Int) + 1 < (b.size : Int)) = false := by simp; omega
            have b4 : ((b.size : Int) == max 1 (((k : Int) + 6) / 7)) = true := by rw [beq_iff_eq]; have h1 := HS.out; have h2 := hkn.out; omega
            clear hhigh hlast
            go_wp2_with fail
            go_ret
            exact ⟨by simp; omega, HB3.out⟩
      · have b2 : 0 < x := by omega
        have HK2 : Hid (k + 1 + Pk.blen (x / 2) = Pk.blen n) := (show _ = _ by have := HK.out; rw [Pk.blen_s hx0] at this; omega)
        have hk2 : k + 1 ≤ 64 := by have := HK2.out; omega
        clear HK
        go_wp2_with fail
        exact ⟨⟨k + 1, x / 2, by go_num, by go_num, HK2, by omega, hk2⟩, by simp [intOf]; omega⟩
  · have hl := hmono hnm
    have b0 : decide ((n : Int) ≤ (m : Int)) = true := by simp; omega
    have b1 : decide ((c.size : Int) < (b.size : Int)) = false := by simp; omega
    clear hmono
    go_wp2_with fail
    go_loop [7, 8] (fun u v => ∃ (k x : Nat), u = .int .i64 (k : Int) ∧ v = .int .u64 (x : Int) ∧ Hid (k + Pk.blen x = Pk.blen n) ∧ x ≤ n ∧ k ≤ 64) (fun _ v => (intOf v).toNat)
    case atStart => exact ⟨0, n, rfl, rfl, Nat.zero_add _, Nat.le_refl _, by omega⟩
    case round =>
      obtain ⟨k, x, rfl, rfl, HK, hx, hk⟩ := hrel
      by_cases hx0 : x = 0
      · have hkn : Hid (k = Pk.blen n) := (show k = _ by have := HK.out; rw [hx0, Pk.blen_0] at this; omega)
        have b2 : ¬ 0 < x := by omega
        clear hx0 HK
        go_wp2_with fail
        go_loop [9] (fun u => ∃ i : Nat, u = .int .i64 (i : Int) ∧ i + 1 ≤ b.size) (fun u => b.size - (intOf u).toNat)
        case atStart => exact ⟨0, rfl, by omega⟩
        case round =>
          obtain ⟨i, rfl, hi1⟩ := hrel
          by_cases hi2 : i + 1 < b.size
          · obtain ⟨c, hc⟩ : ∃ c : UInt8, b[i]'(by omega) = c := ⟨_, rfl⟩
            have hcb : 128 ≤ c.toNat := by rw [← hc]; exact hhigh i (by omega) hi2
            have hi3 : (i : Int) < (b.size : Int) := by omega
            have b3 : decide ((c.toNat : Int) < 128) = false := by simp; omega
            clear hhigh hlast
            go_wp2_with fail
            exact ⟨⟨i + 1, by go_num, by omega⟩, by simp [intOf]; omega⟩
          · obtain ⟨c, hc⟩ : ∃ c : UInt8, b[b.size - 1]'(by omega) = c := ⟨_, rfl⟩
            have hcb : c.toNat < 128 := by rw [← hc]; exact hlast _ (by omega) (by omega)
            have b3 : decide ((i : Int) + 1 < (b.size : Int)) = false := by simp; omega
            have b4 : ((b.size : Int) == max 1 (((k : Int) + 6) / 7)) = true := by rw [beq_iff_eq]; have h1 := HS.out; have h2 := hkn.out; omega
            clear hhigh hlast
            go_wp2_with fail
            go_ret
            exact ⟨by simp; omega, HB3.out⟩
      · have b2 : 0 < x := by omega
        have HK2 : Hid (k + 1 + Pk.blen (x / 2) = Pk.blen n) := (show _ = _ by have := HK.out; rw [Pk.blen_s hx0] at this; omega)
        have hk2 : k + 1 ≤ 64 := by have := HK2.out; omega
        clear HK
        go_wp2_with fail
        exact ⟨⟨k + 1, x / 2, by go_num, by go_num, HK2, by omega, hk2⟩, by simp [intOf]; omega⟩
end Go.Proofs.Ytajbkgahgnkodaa
