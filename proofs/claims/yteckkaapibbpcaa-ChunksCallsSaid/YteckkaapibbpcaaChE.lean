import Derived.Test.YteckkaapibbpcaaChD
namespace Go.Proofs.Yteckkaapibbpcaa
open Go.RowKit

theorem Try.infoI : (Try.prog.info? 46).map (fun i => (i.zero, i.size, i.bytes)) = some (some (.agg #[.int .i64 0, .string ByteArray.empty]), 2, 24) := by kernel_rfl
theorem two_new (w : World) (u v : Value) (t : TypeId) : ∀ j x, [u, v][j]? = some x → (w.alloc (.cells #[u, v] t)).cell? ((⟨w.heap.size, 0, none⟩ : Addr).add j) = some x := by
  intro j x hj
  match j, hj with
  | 0, hj => simp at hj; subst hj; simp [Addr.add]
  | 1, hj => simp at hj; subst hj; simp [Addr.add]
theorem own_keep {w w' : World} {B : Nat} {e : TypeId} {size n : Nat} {v : Value} {xs : List Value} (h : w.ownsRow B e size v n xs) (hk : ∀ k, v.ownBlock = some k → w'.heap[k]? = w.heap[k]?) : w'.ownsRow B e size v n xs := by
  refine ⟨h.1, ?_⟩
  rcases h.2 with h1 | ⟨g, cap, cur, rfl, hg, hb, h2⟩
  · exact .inl h1
  · exact .inr ⟨g, cap, cur, rfl, hg, (hk g rfl).trans hb, h2⟩
theorem own_below {w w' : World} {B : Nat} {e : TypeId} {size n : Nat} {v : Value} {xs : List Value} (h : w.ownsRow B e size v n xs) (hb : Below w.heap.size w w') : w'.ownsRow B e size v n xs := own_keep h fun k hk => hb.block k (h.lt k hk).2
theorem own_slice {w : World} {B : Nat} {e : TypeId} {size n : Nat} {v : Value} {xs : List Value} (h : w.ownsRow B e size v n xs) : ∃ ad cap, v = .slice ad n cap := by
  rcases Nat.eq_zero_or_pos n with h0 | h0
  · rcases h.2 with ⟨h1, h2⟩ | ⟨g, cap, cur, h1, _⟩
    · exact ⟨none, 0, by rw [h1, h2]⟩
    · exact ⟨_, _, h1⟩
  · obtain ⟨g, c, _, h1, _⟩ := own_form h h0
    exact ⟨_, _, h1⟩
/-- items laid out -/
def ics (D : List (Nat × ByteArray)) : List Value := D.flatMap fun p => [.int .i64 (p.1 : Int), .string p.2]
theorem ics_app (D E : List (Nat × ByteArray)) : ics (D ++ E) = ics D ++ ics E := by simp [ics]
theorem ics_len (D : List (Nat × ByteArray)) : (ics D).length = D.length * 2 := by
  induction D with
  | nil => rfl
  | cons p D ih => rw [show ics (p :: D) = [.int .i64 (p.1 : Int), .string p.2] ++ ics D from rfl, List.length_append, ih]; simp; omega
theorem ics_get (D : List (Nat × ByteArray)) (k : Nat) (h : k < D.length) : (ics D)[k * 2]? = some (.int .i64 ((D[k]).1 : Int)) ∧ (ics D)[k * 2 + 1]? = some (.string (D[k]).2) := by
  induction D generalizing k with
  | nil => simp at h
  | cons p D ih =>
    rw [show ics (p :: D) = .int .i64 (p.1 : Int) :: .string p.2 :: ics D from rfl]
    cases k with
    | zero => exact ⟨rfl, rfl⟩
    | succ k =>
      have := ih k (by simpa using h)
      rw [show (k + 1) * 2 = k * 2 + 2 by omega, show k * 2 + 2 + 1 = k * 2 + 1 + 2 by omega]
      exact this
/-- what is due -/
def Sn.from_ (s : Sn) : Nat := if s.ti = 0 then s.go else s.said
def Sn.it (s : Sn) (k : Nat) : Nat × ByteArray := (s.from_ + k, s.R.getD (s.from_ - s.go + k) ByteArray.empty)
def Sn.its (s : Sn) : List (Nat × ByteArray) := (List.range (s.we - s.from_)).map s.it
theorem Sn.its_len (s : Sn) : s.its.length = s.we - s.from_ := by simp [Sn.its]
theorem Sn.its_get (s : Sn) (k : Nat) (h : k < s.its.length) : s.its[k] = s.it k := by simp [Sn.its]
def Sn.due (s : Sn) : Sn := if s.we ≤ s.from_ then s else { s with said := s.we, ti := if s.ti = 0 then s.rs else s.ti }
theorem Sn.from_lo {s : Sn} (h : s.ok) : s.go ≤ s.from_ := by have := h.gs; unfold Sn.from_; split <;> omega
theorem Sn.from_hi {s : Sn} (h : s.ok) : s.from_ ≤ s.we := by have h1 := h.gs; have h2 := h.sw; unfold Sn.from_; split <;> omega
theorem Sn.we_lo {s : Sn} (h : s.ok) : s.go ≤ s.we := Nat.le_trans (Sn.from_lo h) (Sn.from_hi h)
theorem Sn.we_hi (s : Sn) : s.we ≤ s.go + s.R.length := Nat.min_le_right _ _
theorem Sn.due_ok {s : Sn} (h : s.ok) : s.due.ok := by
  unfold Sn.due
  split
  · exact h
  · refine ⟨h.w1, h.w8, h.r1, h.r2, h.l, (show s.go ≤ s.we from Sn.we_lo h), Nat.le_refl _, ?_⟩
    show (if s.ti = 0 then s.rs else s.ti) ≤ s.rs
    have := h.t
    split <;> omega
/-- behind a call of Due -/
def DPost (w : World) (b : Nat) (s : Sn) (ad : Option Addr) (cap X o : Nat) (e : Ending) (w' : World) : Prop :=
  ∃ v, e = .returned v ∧ w'.ownsRow w.heap.size 46 2 v s.its.length (ics s.its) ∧ Sb w' b s.due ad cap X o ∧ On b w w'
theorem grown_of {B : Nat} {w w1 w2 : World} {v : Value} (h : Below B w w1) (hg : w1.grownBy w2 v.ownBlock) (hB : B ≤ w1.heap.size) (hv : ∀ k, v.ownBlock = some k → B ≤ k) : Below B w w2 := h.grown hg hB hv
set_option maxHeartbeats 4000000 in
set_option maxRecDepth 8000 in
theorem due_zero {w : World} {b : Nat} {s : Sn} {ad : Option Addr} {cap X o : Nat} (hk : s.ok) (h : Sb w b s ad cap X o) (ht : s.ti = 0) :
    Calls Try.prog 15 #[.pointer (some ⟨b, 0, none⟩)] w (DPost w b s ad cap X o) := by
  have hfr : s.from_ = s.go := by unfold Sn.from_; rw [if_pos ht]
  have hlo := Sn.from_lo hk
  have hhi := Sn.from_hi hk
  have hwl := Sn.we_hi s
  have hl32 := hk.l
  have HL : Hid (s.its.length = s.we - s.from_) := hide (Sn.its_len s)
  have HW : Hid (∀ n, Calls Try.prog 29 #[.pointer (some ⟨b, 0, none⟩)] (w.drewN n) fun e w' => e = .returned (.int .i64 (s.we : Int)) ∧ ∃ m, w' = (w.drewN n).drewN m) := hide fun n => we_any hk (h.drewN n)
  have HA : Hid (∀ n, Calls Try.prog 16 #[.pointer (some ⟨b, 0, none⟩)] (w.drewN n) fun e w' => e = .returned (.int .i64 (s.go : Int)) ∧ w' = w.drewN n) := hide fun n => acked_any (h.drewN n)
  have HP : Hid (∀ n, Calls Try.prog 30 #[.pointer (some ⟨b, 2, none⟩), .int .i64 (s.go : Int), .int .i64 (s.we : Int)] (w.drewN n) fun e w' => ∃ ad', e = .returned (.slice ad' (s.we - s.from_) (s.we - s.from_)) ∧ (s.from_ < s.we → ad' = some ⟨X, o + (s.from_ - s.go), none⟩) ∧ ∃ m, w' = (w.drewN n).drewN m) := hide fun n => by
    have := piece_any (a := (s.go : Int)) (c := (s.we : Int)) (f := s.from_ - s.go) (t := s.we - s.go) hk.l (h.drewN n) (by omega) (by omega) (by omega) (by omega)
    rw [show s.we - s.go - (s.from_ - s.go) = s.we - s.from_ by omega] at this
    exact this.mono fun e w' ⟨a1, a2, a3, a4⟩ => ⟨a1, a2, fun h1 => a3 (by omega), a4⟩
  have HC : Hid (∀ k, k < s.we - s.from_ → w.cell? ⟨X, o + (s.from_ - s.go) + k, none⟩ = some (.string (s.it k).2)) := hide fun k hk2 => by
    have h1 := h.rs.c (s.from_ - s.go + k) (by omega)
    rw [Nat.add_assoc, h1]
    unfold Sn.it
    simp only [List.getD_eq_getElem?_getD, List.getElem?_eq_getElem (show s.from_ - s.go + k < s.R.length by omega), Option.getD_some]
  have HXl : Hid (s.from_ < s.we → X < w.heap.size) := hide fun h1 => h.rs.lt (by have := h.rs.le; omega)
  have HN : Hid (s.we - s.from_ = 0 → s.due = s) := hide fun h1 => by unfold Sn.due; rw [if_pos (by omega)]
  have HY : Hid (0 < s.we - s.from_ → s.due = { s with said := s.we, ti := s.rs }) := hide fun h1 => by unfold Sn.due; rw [if_neg (by omega), if_pos ht]
  have HTz := hide ht
  have HH := hide h
  have hlt := h.lt
  have c4 := h.c4
  have c5 := h.c5
  rw [ht] at c5
  have hwe : s.we ≤ 32 := by omega
  obtain ⟨q, hq⟩ : ∃ q, s.we = q := ⟨_, rfl⟩
  have HQ := hide hq
  have hgo : s.go ≤ 32 := by omega
  have hsd : s.go ≤ 32 := by omega
  have hF : ∀ k, (s.it k).1 = s.go + k := fun k => by unfold Sn.it; rw [hfr]
  have HF := hide hF
  obtain ⟨n, hn⟩ : ∃ n, s.we - s.from_ = n := ⟨_, rfl⟩
  have hn32 : n ≤ 32 := by omega
  have HNn := hide hn
  have HSl : Hid (0 < n → s.from_ < s.we) := hide (by omega)
  have HSi : Hid (s.its = (List.range n).map s.it) := hide (by rw [← hn]; rfl)
  rw [hn] at HC HP HN HY HL
  rw [hq] at HW HP HSl HXl
  obtain ⟨iI, hiI, zI0, zI1, zI2⟩ := info_parts Try.infoI
  have hr1 := hk.r2
  have HK := hide hk
  clear h hk ht hlo hhi hwl hl32 hfr hF hn hq
  have hwe : q ≤ 32 := by have := HQ.out; omega
  go_enter Try.func15, Try.ntmps15
  go_wp2_with fail
  go_quiet ((go_at_call 29; exact Calls.quiet_of (HW.out _)))
  go_wp2_with fail
  refine (HA.out _).mono ?_
  rintro e w1 ⟨rfl, rfl⟩
  go_wp2_with fail
  refine (HP.out _).mono ?_
  rintro e w2 ⟨ad', rfl, hat, m2, hw2⟩
  have HB2 : Hid (Below w.heap.size w w2) := hide (by rw [hw2]; exact below_drewN (below_drewN (Below.refl _ w) _) _)
  have HAt := hide hat
  clear hw2 hat
  go_wp2_with fail
  go_loopw [5, 6, 7, 28] (fun u _ _ c wr => ∃ k : Nat, c = .int .i64 (k : Int) ∧ k ≤ n ∧ Hid (wr.ownsRow w.heap.size 46 2 u k (ics ((List.range k).map s.it))) ∧ Hid (Below w.heap.size w wr)) (fun _ _ _ c _ => n - (intOf c).toNat)
  case atStart => exact ⟨0, rfl, Nat.zero_le _, World.ownsRow_nil _ _ _ _, HB2⟩
  case round =>
    clear HB2
    obtain ⟨k, rfl, hkn, HO, HB⟩ := hrel
    by_cases hki : k < n
    · have had := HAt.out (HSl.out (by omega))
      subst had
      have hbk := (HB.out.block X (HXl.out (HSl.out (by omega))))
      have ck := (World.cell?_of_block (a := ⟨X, o + (s.from_ - s.go) + k, none⟩) hbk).trans (HC.out k hki)
      have hXr : X < wr.heap.size := Nat.lt_of_lt_of_le (HXl.out (HSl.out (by omega))) HB.out.size
      obtain ⟨tx, htx⟩ : ∃ tx, (s.it k).2 = tx := ⟨_, rfl⟩
      rw [htx] at ck
      have HT : Hid (ics ((List.range (k + 1)).map s.it) = ics ((List.range k).map s.it) ++ [.int .i64 ((s.go : Int) + (k : Int)), .string tx]) := hide (by
        rw [List.range_succ, List.map_append, ics_app]
        have e1 : s.it k = (s.go + k, tx) := Prod.ext (HF.out k) htx
        simp only [List.map_cons, List.map_nil, e1]
        simp [ics])
      obtain ⟨adu, capu, rfl⟩ := own_slice HO.out
      have hsz := HB.out.size
      have hap : Hid (∀ g, (Value.slice adu k capu).ownBlock = some g → w.heap.size ≤ g) := hide fun g e => (HO.out.lt g e).1
      have HO3 : Hid ((wr.alloc (.cells #[.int .i64 ((s.go : Int) + (k : Int)), .string tx] 46)).ownsRow w.heap.size 46 2 (.slice adu k capu) k (ics ((List.range k).map s.it))) := hide (own_below HO.out (below_alloc wr _))
      clear hbk htx
      go_wp2_with (at_builtin; refine wpList_append_lies _ rfl (.tmp 33) (.tmp 39) 43 rfl w.heap.size 46 iI (.agg #[.int .i64 0, .string ByteArray.empty]) 2 24 Try.underlying43 hiI zI0 zI1 zI2 rfl (by decide) (.slice adu k capu) k (ics ((List.range k).map s.it)) rfl HO3.out ⟨wr.heap.size, 0, none⟩ 1 1 [.int .i64 ((s.go : Int) + (k : Int)), .string tx] rfl rfl (two_new _ _ _ _) (by simp [Value.oneCell']) (by decide) (by unfold maxLen; omega) (by omega) (by rw [World.size_alloc]; omega) _ rfl ?_; intro g cap' w7 hown hgrow hat7 hlt7; have HO7 := hide hown; have HB7 := hide (grown_of (HB.out.alloc hsz _) hgrow (by rw [World.size_alloc]; omega) hap.out); clear hown hgrow hat7 hlt7)
      go_roundw
      case rel => exact ⟨k + 1, by go_num, by omega, by rw [HT.out]; exact HO7, HB7⟩
      case measure => simp only [intOf]; omega
    · have hkn2 : k = n := by omega
      subst hkn2
      obtain ⟨adu, capu, rfl⟩ := own_slice HO.out
      by_cases h0 : k = 0
      · subst h0
        have HD := hide (HN.out rfl)
        clear HY HN hki
        go_wp2_with fail
        go_ret
        exact ⟨_, rfl, by rw [HSi.out]; exact World.ownsRow_nil _ _ _ _, by rw [HD.out]; exact HH.out.below HB.out, On.of_below HB.out⟩
      · have HD := hide (HY.out (by omega))
        have hS := HH.out.below HB.out
        have d1 := hS.c1
        have d4 := hS.c4
        have d5 := hS.c5
        have z4 := hS.z 4
        have z5 := hS.z 5
        have HS := hide hS
        have e0 : (k == 0) = false := by simpa using h0
        rw [show (s.ti : Int) = 0 from by have := HTz.out; omega] at d5
        clear HY HN hki hS h0
        go_wp2_with fail
        go_ret
        refine ⟨_, rfl, ?_, ?_, ?_⟩
        · rw [HL.out, HSi.out]
          exact own_keep HO.out fun j hj => (Below.heap_setCell _ ⟨b, 5, none⟩ _ j (by show j ≠ b; have := (HO.out.lt j hj).1; omega)).trans (Below.heap_setCell _ ⟨b, 4, none⟩ _ j (by show j ≠ b; have := (HO.out.lt j hj).1; omega))
        · rw [HD.out, HQ.out]
          exact (HS.out.c3_said q).c3_ti s.rs
        · exact ((On.of_below HB.out).set _ _).set _ _
set_option maxHeartbeats 4000000 in
set_option maxRecDepth 8000 in
theorem due_some {w : World} {b : Nat} {s : Sn} {ad : Option Addr} {cap X o : Nat} (hk : s.ok) (h : Sb w b s ad cap X o) (ht : ¬ s.ti = 0) :
    Calls Try.prog 15 #[.pointer (some ⟨b, 0, none⟩)] w (DPost w b s ad cap X o) := by
  have hfr : s.from_ = s.said := by unfold Sn.from_; rw [if_neg ht]
  have hlo := Sn.from_lo hk
  have hhi := Sn.from_hi hk
  have hwl := Sn.we_hi s
  have hl32 := hk.l
  have HL : Hid (s.its.length = s.we - s.from_) := hide (Sn.its_len s)
  have HW : Hid (∀ n, Calls Try.prog 29 #[.pointer (some ⟨b, 0, none⟩)] (w.drewN n) fun e w' => e = .returned (.int .i64 (s.we : Int)) ∧ ∃ m, w' = (w.drewN n).drewN m) := hide fun n => we_any hk (h.drewN n)
  have HA : Hid (∀ n, Calls Try.prog 16 #[.pointer (some ⟨b, 0, none⟩)] (w.drewN n) fun e w' => e = .returned (.int .i64 (s.go : Int)) ∧ w' = w.drewN n) := hide fun n => acked_any (h.drewN n)
  have HP : Hid (∀ n, Calls Try.prog 30 #[.pointer (some ⟨b, 2, none⟩), .int .i64 (s.said : Int), .int .i64 (s.we : Int)] (w.drewN n) fun e w' => ∃ ad', e = .returned (.slice ad' (s.we - s.from_) (s.we - s.from_)) ∧ (s.from_ < s.we → ad' = some ⟨X, o + (s.from_ - s.go), none⟩) ∧ ∃ m, w' = (w.drewN n).drewN m) := hide fun n => by
    have := piece_any (a := (s.said : Int)) (c := (s.we : Int)) (f := s.from_ - s.go) (t := s.we - s.go) hk.l (h.drewN n) (by omega) (by omega) (by omega) (by omega)
    rw [show s.we - s.go - (s.from_ - s.go) = s.we - s.from_ by omega] at this
    exact this.mono fun e w' ⟨a1, a2, a3, a4⟩ => ⟨a1, a2, fun h1 => a3 (by omega), a4⟩
  have HC : Hid (∀ k, k < s.we - s.from_ → w.cell? ⟨X, o + (s.from_ - s.go) + k, none⟩ = some (.string (s.it k).2)) := hide fun k hk2 => by
    have h1 := h.rs.c (s.from_ - s.go + k) (by omega)
    rw [Nat.add_assoc, h1]
    unfold Sn.it
    simp only [List.getD_eq_getElem?_getD, List.getElem?_eq_getElem (show s.from_ - s.go + k < s.R.length by omega), Option.getD_some]
  have HXl : Hid (s.from_ < s.we → X < w.heap.size) := hide fun h1 => h.rs.lt (by have := h.rs.le; omega)
  have HN : Hid (s.we - s.from_ = 0 → s.due = s) := hide fun h1 => by unfold Sn.due; rw [if_pos (by omega)]
  have HY : Hid (0 < s.we - s.from_ → s.due = { s with said := s.we, ti := s.ti }) := hide fun h1 => by unfold Sn.due; rw [if_neg (by omega), if_neg ht]
  have HH := hide h
  have hlt := h.lt
  have c4 := h.c4
  have c5 := h.c5
  have ht2 : (s.ti == 0) = false := by simpa using ht
  have hwe : s.we ≤ 32 := by omega
  obtain ⟨q, hq⟩ : ∃ q, s.we = q := ⟨_, rfl⟩
  have HQ := hide hq
  have hgo : s.go ≤ 32 := by omega
  have hsd : s.said ≤ 32 := by omega
  have hF : ∀ k, (s.it k).1 = s.said + k := fun k => by unfold Sn.it; rw [hfr]
  have HF := hide hF
  obtain ⟨n, hn⟩ : ∃ n, s.we - s.from_ = n := ⟨_, rfl⟩
  have hn32 : n ≤ 32 := by omega
  have HNn := hide hn
  have HSl : Hid (0 < n → s.from_ < s.we) := hide (by omega)
  have HSi : Hid (s.its = (List.range n).map s.it) := hide (by rw [← hn]; rfl)
  rw [hn] at HC HP HN HY HL
  rw [hq] at HW HP HSl HXl
  obtain ⟨iI, hiI, zI0, zI1, zI2⟩ := info_parts Try.infoI
  have hr1 := hk.r2
  have HK := hide hk
  clear h hk ht hlo hhi hwl hl32 hfr hF hn hq
  have hwe : q ≤ 32 := by have := HQ.out; omega
  go_enter Try.func15, Try.ntmps15
  go_wp2_with fail
  go_quiet ((go_at_call 29; exact Calls.quiet_of (HW.out _)))
  go_wp2_with fail
  refine (HP.out _).mono ?_
  rintro e w2 ⟨ad', rfl, hat, m2, hw2⟩
  have HB2 : Hid (Below w.heap.size w w2) := hide (by rw [hw2]; exact below_drewN (below_drewN (Below.refl _ w) _) _)
  have HAt := hide hat
  clear hw2 hat
  go_wp2_with fail
  go_loopw [5, 6, 7, 28] (fun u _ _ c wr => ∃ k : Nat, c = .int .i64 (k : Int) ∧ k ≤ n ∧ Hid (wr.ownsRow w.heap.size 46 2 u k (ics ((List.range k).map s.it))) ∧ Hid (Below w.heap.size w wr)) (fun _ _ _ c _ => n - (intOf c).toNat)
  case atStart => exact ⟨0, rfl, Nat.zero_le _, World.ownsRow_nil _ _ _ _, HB2⟩
  case round =>
    clear HB2
    obtain ⟨k, rfl, hkn, HO, HB⟩ := hrel
    by_cases hki : k < n
    · have had := HAt.out (HSl.out (by omega))
      subst had
      have hbk := (HB.out.block X (HXl.out (HSl.out (by omega))))
      have ck := (World.cell?_of_block (a := ⟨X, o + (s.from_ - s.go) + k, none⟩) hbk).trans (HC.out k hki)
      have hXr : X < wr.heap.size := Nat.lt_of_lt_of_le (HXl.out (HSl.out (by omega))) HB.out.size
      obtain ⟨tx, htx⟩ : ∃ tx, (s.it k).2 = tx := ⟨_, rfl⟩
      rw [htx] at ck
      have HT : Hid (ics ((List.range (k + 1)).map s.it) = ics ((List.range k).map s.it) ++ [.int .i64 ((s.said : Int) + (k : Int)), .string tx]) := hide (by
        rw [List.range_succ, List.map_append, ics_app]
        have e1 : s.it k = (s.said + k, tx) := Prod.ext (HF.out k) htx
        simp only [List.map_cons, List.map_nil, e1]
        simp [ics])
      obtain ⟨adu, capu, rfl⟩ := own_slice HO.out
      have hsz := HB.out.size
      have hap : Hid (∀ g, (Value.slice adu k capu).ownBlock = some g → w.heap.size ≤ g) := hide fun g e => (HO.out.lt g e).1
      have HO3 : Hid ((wr.alloc (.cells #[.int .i64 ((s.said : Int) + (k : Int)), .string tx] 46)).ownsRow w.heap.size 46 2 (.slice adu k capu) k (ics ((List.range k).map s.it))) := hide (own_below HO.out (below_alloc wr _))
      clear hbk htx
      go_wp2_with (at_builtin; refine wpList_append_lies _ rfl (.tmp 33) (.tmp 39) 43 rfl w.heap.size 46 iI (.agg #[.int .i64 0, .string ByteArray.empty]) 2 24 Try.underlying43 hiI zI0 zI1 zI2 rfl (by decide) (.slice adu k capu) k (ics ((List.range k).map s.it)) rfl HO3.out ⟨wr.heap.size, 0, none⟩ 1 1 [.int .i64 ((s.said : Int) + (k : Int)), .string tx] rfl rfl (two_new _ _ _ _) (by simp [Value.oneCell']) (by decide) (by unfold maxLen; omega) (by omega) (by rw [World.size_alloc]; omega) _ rfl ?_; intro g cap' w7 hown hgrow hat7 hlt7; have HO7 := hide hown; have HB7 := hide (grown_of (HB.out.alloc hsz _) hgrow (by rw [World.size_alloc]; omega) hap.out); clear hown hgrow hat7 hlt7)
      go_roundw
      case rel => exact ⟨k + 1, by go_num, by omega, by rw [HT.out]; exact HO7, HB7⟩
      case measure => simp only [intOf]; omega
    · have hkn2 : k = n := by omega
      subst hkn2
      obtain ⟨adu, capu, rfl⟩ := own_slice HO.out
      by_cases h0 : k = 0
      · subst h0
        have HD := hide (HN.out rfl)
        clear HY HN hki
        go_wp2_with fail
        go_ret
        exact ⟨_, rfl, by rw [HSi.out]; exact World.ownsRow_nil _ _ _ _, by rw [HD.out]; exact HH.out.below HB.out, On.of_below HB.out⟩
      · have HD := hide (HY.out (by omega))
        have hS := HH.out.below HB.out
        have d1 := hS.c1
        have d4 := hS.c4
        have d5 := hS.c5
        have z4 := hS.z 4
        have z5 := hS.z 5
        have HS := hide hS
        have e0 : (k == 0) = false := by simpa using h0
        clear HY HN hki hS h0
        go_wp2_with fail
        go_ret
        refine ⟨_, rfl, ?_, ?_, ?_⟩
        · rw [HL.out, HSi.out]
          exact own_keep HO.out fun j hj => (Below.heap_setCell _ ⟨b, 4, none⟩ _ j (by show j ≠ b; have := (HO.out.lt j hj).1; omega))
        · rw [HD.out, HQ.out]
          exact HS.out.c3_said q
        · exact (On.of_below HB.out).set _ _
theorem due_any {w : World} {b : Nat} {s : Sn} {ad : Option Addr} {cap X o : Nat} (hk : s.ok) (h : Sb w b s ad cap X o) : Calls Try.prog 15 #[.pointer (some ⟨b, 0, none⟩)] w (DPost w b s ad cap X o) := by
  by_cases ht : s.ti = 0
  · exact due_zero hk h ht
  · exact due_some hk h ht
end Go.Proofs.Yteckkaapibbpcaa
