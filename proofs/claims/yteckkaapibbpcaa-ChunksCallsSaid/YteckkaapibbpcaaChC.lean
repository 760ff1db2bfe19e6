import Derived.Test.YteckkaapibbpcaaChB
namespace Go.Proofs.Yteckkaapibbpcaa
open Go.RowKit

set_option maxHeartbeats 2000000 in
set_option maxRecDepth 8000 in
theorem piece_any {w : World} {b : Nat} {s : Sn} {ad : Option Addr} {cap X o : Nat} (hk : s.go + s.R.length ≤ 32) (h : Sb w b s ad cap X o) {a c : Int} {f t : Nat} (ha : a - (s.go : Int) = (f : Int)) (hc : c - (s.go : Int) = (t : Int)) (h1 : f ≤ t) (h2 : t ≤ s.R.length) :
    Calls Try.prog 30 #[.pointer (some ⟨b, 2, none⟩), .int .i64 a, .int .i64 c] w fun e w' => ∃ ad', e = .returned (.slice ad' (t - f) (t - f)) ∧ (f < t → ad' = some ⟨X, o + f, none⟩) ∧ ∃ m, w' = w.drewN m := by
  have c2 := h.c2
  have c3 := h.c3
  have hle := h.rs.le
  have HA := hide h.rs.at_
  clear h
  have f32 : f ≤ 32 := by omega
  have t32 : t ≤ 32 := by omega
  have tc : t ≤ cap := by omega
  have HN := hide hle
  have HK := hide hk
  have H2 := hide h2
  clear hk h2 hle
  by_cases hft : f = t
  · subst hft
    clear h1 t32
    go_enter Try.func30, Try.ntmps30
    go_wp2
    go_quiet (fail)
    go_wp2
    go_ret
    exact ⟨ad, by rw [Nat.sub_self]; rfl, fun h => absurd h (by omega), _, rfl⟩
  · have hft2 : ¬ t = f := fun e => hft e.symm
    have had := HA.out (by omega)
    subst had
    go_enter Try.func30, Try.ntmps30
    go_wp2
    go_quiet (fail)
    go_wp2
    go_ret
    exact ⟨_, rfl, fun h => rfl, _, rfl⟩
set_option maxHeartbeats 2000000 in
set_option maxRecDepth 8000 in
theorem leave_any {w : World} {b : Nat} {s : Sn} {ad : Option Addr} {cap X o : Nat} (hk : s.go + s.R.length ≤ 32) (h : Sb w b s ad cap X o) {k : Nat} (h1 : s.go ≤ k) (h2 : k ≤ s.go + s.R.length) :
    Calls Try.prog 31 #[.pointer (some ⟨b, 2, none⟩), .int .i64 (k : Int)] w fun e w' => e = .returned (.tuple #[]) ∧ (∃ ad', Sb w' b { s with go := k, R := s.R.drop (k - s.go) } ad' (s.R.length - (k - s.go)) X (o + (k - s.go))) ∧ On b w w' := by
  have HE := hide (end_any hk h)
  have HP : Hid (∀ m, Calls Try.prog 30 #[.pointer (some ⟨b, 2, none⟩), .int .i64 (k : Int), .int .i64 (s.len : Int)] (w.drewN m) fun e w' => ∃ ad', e = .returned (.slice ad' (s.R.length - (k - s.go)) (s.R.length - (k - s.go))) ∧ (k - s.go < s.R.length → ad' = some ⟨X, o + (k - s.go), none⟩) ∧ ∃ n, w' = (w.drewN m).drewN n) := hide fun m => piece_any hk (h.drewN m) (by omega) (by unfold Sn.len; omega) (by omega) (by omega)
  have z2 := h.z 2
  have z3 := h.z 3
  have c2 := h.c2
  have c3 := h.c3
  have HH := hide h
  clear h hk
  go_enter Try.func31, Try.ntmps31
  go_wp2_with fail
  refine HE.out.mono ?_
  rintro e w1 ⟨rfl, m, rfl⟩
  go_wp2_with fail
  refine (HP.out m).mono ?_
  rintro e w2 ⟨ad', rfl, hat, n, rfl⟩
  have HAt := hide hat
  clear hat HP HE
  obtain ⟨d, hd⟩ : ∃ d, k - s.go = d := ⟨_, rfl⟩
  rw [hd] at HAt ⊢
  have hkd : k = s.go + d := by omega
  have HD : Hid (d ≤ s.R.length) := hide (by omega)
  obtain ⟨q, hq⟩ : ∃ q, s.R.length - d = q := ⟨_, rfl⟩
  have HQ := hide hq
  rw [hq]
  have HKD := hide hkd
  have HD0 := hide hd
  clear hd hkd hq h1 h2
  go_wp2_with fail
  go_end0
  rw [HD0.out, HQ.out]
  refine ⟨rfl, ⟨ad', ?_⟩, ?_⟩
  · have hb := HH.out.cb
    have e1 := heap_set_self _ b 3 (.slice ad' q q) _ _ _ hb
    have e2 := heap_set_self _ b 2 (.int .i64 (k : Int)) _ _ _ e1
    have hl : (s.R.drop d).length = q := by rw [List.length_drop]; exact HQ.out
    refine ⟨?_, ?_⟩
    · have : scs { s with go := k, R := s.R.drop d } ad' q = ((scs s ad cap).setIfInBounds 3 (.slice ad' q q)).setIfInBounds 2 (.int .i64 (k : Int)) := by simp [scs, hl]
      rw [this]
      exact e2
    · have hp := HH.out.rs.piece (f := d) (t := s.R.length) HD.out (Nat.le_refl _) ad' HAt.out
      rw [HQ.out] at hp
      have hR : (s.R.drop d).take q = s.R.drop d := List.take_of_length_le (by omega)
      rw [hR] at hp
      refine hp.keep fun h0 => ?_
      have hne := HH.out.ne (by have := HH.out.rs.le; have := HQ.out; omega)
      exact (Below.heap_setCell _ ⟨b, 2, none⟩ _ X hne).trans (Below.heap_setCell _ ⟨b, 3, none⟩ _ X hne)
  · exact ((((On.refl b w).set 3 (.slice ad' q q))).set 2 (.int .i64 (k : Int))).drewN _
set_option maxHeartbeats 2000000 in
set_option maxRecDepth 8000 in
theorem we_any {w : World} {b : Nat} {s : Sn} {ad : Option Addr} {cap X o : Nat} (hk : s.ok) (h : Sb w b s ad cap X o) :
    Calls Try.prog 29 #[.pointer (some ⟨b, 0, none⟩)] w fun e w' => e = .returned (.int .i64 (s.we : Int)) ∧ ∃ m, w' = w.drewN m := by
  have c0 := h.c0
  have HA : Hid (∀ n, Calls Try.prog 16 #[.pointer (some ⟨b, 0, none⟩)] (w.drewN n) fun e w' => e = .returned (.int .i64 (s.go : Int)) ∧ w' = w.drewN n) := hide fun n => acked_any (h.drewN n)
  have HL : Hid (∀ n, Calls Try.prog 19 #[.pointer (some ⟨b, 0, none⟩)] (w.drewN n) fun e w' => e = .returned (.int .i64 (s.len : Int)) ∧ ∃ m, w' = (w.drewN n).drewN m) := hide fun n => len_any hk.l (h.drewN n)
  obtain ⟨n, hn⟩ : ∃ n, s.len = n := ⟨_, rfl⟩
  have h32 : n ≤ 32 := by rw [← hn]; exact hk.l
  have hw8 := hk.w8
  have hg : s.go ≤ 32 := by have := hk.l; omega
  have hwe : s.we = min (s.go + s.wd) n := by unfold Sn.we; rw [hn]
  rw [hn] at HL
  rw [hwe]
  clear h hk hn hwe
  by_cases hlt : n < s.go + s.wd
  · rw [Nat.min_eq_right (by omega)]
    go_enter Try.func29, Try.ntmps29
    go_wp2
    go_quiet (first | (go_at_call 16; exact Calls.quiet_of_same (HA.out _)) | (go_at_call 19; exact Calls.quiet_of (HL.out _)))
    go_wp2
    go_ret
    exact ⟨by simp, _, rfl⟩
  · rw [Nat.min_eq_left (by omega)]
    go_enter Try.func29, Try.ntmps29
    go_wp2
    go_quiet (first | (go_at_call 16; exact Calls.quiet_of_same (HA.out _)) | (go_at_call 19; exact Calls.quiet_of (HL.out _)))
    go_wp2
    go_ret
    exact ⟨by simp, _, rfl⟩
set_option maxHeartbeats 2000000 in
set_option maxRecDepth 8000 in
theorem room_any {w : World} {b : Nat} {s : Sn} {ad : Option Addr} {cap X o : Nat} (hk : s.ok) (h : Sb w b s ad cap X o) :
    Calls Try.prog 21 #[.pointer (some ⟨b, 0, none⟩)] w fun e w' => e = .returned (.bool (decide (s.R.length < s.wd))) ∧ ∃ m, w' = w.drewN m := by
  have c0 := h.c0
  have HA : Hid (∀ n, Calls Try.prog 16 #[.pointer (some ⟨b, 0, none⟩)] (w.drewN n) fun e w' => e = .returned (.int .i64 (s.go : Int)) ∧ w' = w.drewN n) := hide fun n => acked_any (h.drewN n)
  have HL : Hid (∀ n, Calls Try.prog 19 #[.pointer (some ⟨b, 0, none⟩)] (w.drewN n) fun e w' => e = .returned (.int .i64 (s.len : Int)) ∧ ∃ m, w' = (w.drewN n).drewN m) := hide fun n => len_any hk.l (h.drewN n)
  obtain ⟨n, hn⟩ : ∃ n, s.len = n := ⟨_, rfl⟩
  have h32 : s.R.length ≤ 32 := by have := hk.l; omega
  have hq2 : (n : Int) - (s.go : Int) = (s.R.length : Int) := by rw [← hn]; unfold Sn.len; omega
  rw [hn] at HL
  clear h hk hn
  go_enter Try.func21, Try.ntmps21
  go_wp2
  go_quiet (first | (go_at_call 16; exact Calls.quiet_of_same (HA.out _)) | (go_at_call 19; exact Calls.quiet_of (HL.out _)))
  go_wp2
  go_ret
  exact ⟨by simp, _, rfl⟩
end Go.Proofs.Yteckkaapibbpcaa
