import Derived.Test.YtjkkjijlblfgaaaGreatDoorMgBD

section
namespace Go.Proofs.YtjkkjijlblfgaaaGreatDoor
open Go.RowKit Go.Shelf

theorem own_put {w : World} {base e size n g : Nat} {v : Value} {xs : List Value} (h : w.ownsRow base e size v n xs) (hv : v.ownBlock = some g) (i : Nat) (u : Value) : ∃ ys, (w.setCell ⟨g, i, none⟩ u).ownsRow base e size v n ys := by
  rcases h.2 with ⟨rfl, _⟩ | ⟨g', cap, cur, rfl, hb, hgg, hn, hm, hc, ht⟩
  · cases hv
  · injection hv with hv
    have hv : g' = g := hv
    subst hv
    refine ⟨(cur.setIfInBounds i u).toList.take (n * size), ?_, .inr ⟨g', cap, cur.setIfInBounds i u, rfl, hb, heap_set_self w g' i u cur _ _ hgg, hn, hm, by simpa using hc, rfl⟩⟩
    rw [List.length_take, Array.length_toList, Array.size_setIfInBounds, hc]
    exact Nat.min_eq_left (Nat.mul_le_mul_right _ hn)
theorem own_z {w : World} {base e size n g : Nat} {v : Value} {xs : List Value} (h : w.ownsRow base e size v n xs) (hv : v.ownBlock = some g) (i : Nat) : w.frozen? ⟨g, i, none⟩ = false := by
  rcases h.2 with ⟨rfl, _⟩ | ⟨g', cap, cur, rfl, hb, hgg, _⟩
  · cases hv
  · injection hv with hv
    have hv : g' = g := hv
    subst hv
    simp [World.frozen?, hgg]
theorem own_cell {w : World} {base e size n g : Nat} {v : Value} {xs : List Value} (h : w.ownsRow base e size v n xs) (hv : v.ownBlock = some g) (i : Nat) (hi : i < n * size) : ∃ u, w.cell? ⟨g, i, none⟩ = some u := by
  have hx : i < xs.length := by rw [h.1]; exact hi
  have := h.cells hv i xs[i] (List.getElem?_eq_getElem hx)
  rw [Addr.add_lit, Nat.zero_add] at this
  exact ⟨_, this⟩
set_option maxRecDepth 20000 in
set_option maxHeartbeats 2000000 in
theorem spoil_any {base : Nat} {f : Int} {v : Value} {n : Nat} {zs : List Value} {w : World} (hn : n ≤ 1024) (hO : w.ownsRow base 48 6 v n zs) (hb : base ≤ w.heap.size) :
    Calls Tryz.prog 8 #[.agg #[.int .i64 f, v]] w fun e w' => e = .returned (.tuple #[]) ∧ Below base w w' := by
  obtain ⟨ad, cap, rfl⟩ := own_slice hO
  have hlt := hO.lt
  have HO1 := hide (own_grown hO (grown_one w (.cells #[.int .i64 f, .slice ad n cap] 24) none) (fun _ _ => by simp))
  have HP1 : Hid (Pb (w.alloc (.cells #[.int .i64 f, .slice ad n cap] 24)) w.heap.size f (.slice ad n cap)) := heap_alloc_new w _
  have HB1 : Hid (Below base w (w.alloc (.cells #[.int .i64 f, .slice ad n cap] 24))) := (below_one w _).mono hb
  clear hO
  go_enter Tryz.func8, Tryz.ntmps8
  go_wp2_with fail
  generalize w.alloc (.cells #[.int .i64 f, .slice ad n cap] 24) = w1 at *
  go_loopw [2] (fun s2 wr => ∃ (k : Nat) (ys : List Value), k ≤ n ∧ s2 = .int .i64 (k : Int) ∧ Hid (wr.ownsRow base 48 6 (.slice ad n cap) n ys) ∧ Hid (Pb wr w.heap.size f (.slice ad n cap)) ∧ Hid (Below base w wr)) (fun s _ => n - (intOf s).toNat)
  case atStart => exact ⟨0, zs, Nat.zero_le _, rfl, HO1, HP1, HB1⟩
  case round =>
    obtain ⟨k, ys, hk, rfl, HO, HP, HB⟩ := hrel
    clear HO1 HP1 HB1
    have p1 := HP.out.c1
    by_cases hkn : k < n
    · have hki : (k : Int) < (n : Int) := by omega
      obtain ⟨g, rfl⟩ : ∃ g, ad = some ⟨g, 0, none⟩ := by
        rcases HO.out.2 with ⟨_, h0⟩ | ⟨g, cap', cur, hv, _⟩
        · omega
        · injection hv with hv; exact ⟨g, hv⟩
      have hgb := HO.out.lt g rfl
      have hgw := hlt g rfl
      have hg0 : g ≠ w.heap.size := by omega
      obtain ⟨u0, c0⟩ := own_cell HO.out rfl (k * 6) (by omega)
      obtain ⟨u1, c1⟩ := own_cell HO.out rfl (k * 6 + 1) (by omega)
      obtain ⟨u2, c2⟩ := own_cell HO.out rfl (k * 6 + 2) (by omega)
      obtain ⟨u3, c3⟩ := own_cell HO.out rfl (k * 6 + 3) (by omega)
      obtain ⟨u4, c4⟩ := own_cell HO.out rfl (k * 6 + 4) (by omega)
      obtain ⟨u5, c5⟩ := own_cell HO.out rfl (k * 6 + 5) (by omega)
      have fz := own_z HO.out rfl
      go_wp2_with fail
      obtain ⟨y1, o1⟩ := own_put HO.out rfl (k * 6) (.int .i64 (-(k : Int)))
      obtain ⟨y2, o2⟩ := own_put o1 rfl (k * 6 + 1) (.int .i64 0)
      obtain ⟨y3, o3⟩ := own_put o2 rfl (k * 6 + 2) (.int .i64 0)
      obtain ⟨y4, o4⟩ := own_put o3 rfl (k * 6 + 3) (.int .i64 0)
      obtain ⟨y5, o5⟩ := own_put o4 rfl (k * 6 + 4) (.int .i64 0)
      obtain ⟨y6, o6⟩ := own_put o5 rfl (k * 6 + 5) (.int .u64 0)
      have hg := grown_trans (grown_set wr g (k * 6) (.int .i64 (-(k : Int)))) (grown_trans (grown_set _ g (k * 6 + 1) (.int .i64 0)) (grown_trans (grown_set _ g (k * 6 + 2) (.int .i64 0)) (grown_trans (grown_set _ g (k * 6 + 3) (.int .i64 0)) (grown_trans (grown_set _ g (k * 6 + 4) (.int .i64 0)) (grown_set _ g (k * 6 + 5) (.int .u64 0))))))
      go_roundw
      case rel => exact ⟨k + 1, y6, by omega, by go_num, o6, HP.out.grown hg (by simp; omega), HB.out.grown hg (Nat.le_trans hb HB.out.size) (fun q hq => by injection hq with hq; omega)⟩
      case measure => simp [intOf]; omega
    · obtain rfl : k = n := by omega
      have hki : ¬ (k : Int) < (k : Int) := by omega
      obtain ⟨i0, hi0, hz0, hz1, hz2⟩ := info_parts Tryz.infoI
      have hBs := HB.out.size
      have HO2 := hide (own_grown HO.out (grown_one wr (.cells #[.int .i64 (-9), .int .i64 0, .int .i64 0, .int .i64 0, .int .i64 0, .int .u64 0] 48) none) (fun _ _ => by simp))
      go_wp2_with (at_builtin; refine wpList_append_lies _ rfl (.tmp 19) (.tmp 21) 22 rfl base 48 i0 (.agg #[.int .i64 0, .int .i64 0, .int .i64 0, .int .i64 0, .int .i64 0, .int .u64 0]) 6 48 Tryz.underlying22 hi0 hz0 hz1 hz2 rfl (by decide) (.slice ad k cap) k ys rfl HO2.out ⟨wr.heap.size, 0, none⟩ 1 1 [.int .i64 (-9), .int .i64 0, .int .i64 0, .int .i64 0, .int .i64 0, .int .u64 0] rfl (by simp) (World.news_of_block (cs := #[.int .i64 (-9), .int .i64 0, .int .i64 0, .int .i64 0, .int .i64 0, .int .u64 0]) (t := 48) (fr := (0, 0)) (heap_alloc_new wr _)) (by simp [Value.oneCell']) (by decide) (by unfold maxLen; omega) (by omega) (by rw [World.size_alloc]; omega) (wr.heap.size + 1) (by rw [World.size_alloc]) ?_; intro g cap' w7 hown hgrow hat hlt7; obtain ⟨u4, c4⟩ := own_cell hown rfl (k * 6 + 4) (by omega); have fz := own_z hown rfl; have HQ : Hid (Below base w w7) := (HB.out.alloc (by omega) _).grown hgrow (by rw [World.size_alloc]; omega) (fun q hq => (HO.out.lt q hq).1); have hgb := (hown.lt g rfl).1; clear hown hgrow hat hlt7)
      go_end0
      exact ⟨rfl, HQ.out.setCell (p := ⟨g, k * 6 + 4, none⟩) hgb _⟩
theorem unpackS_len (b : ByteArray) : (Pg.unpackS b).1.2.length ≤ 64 := by
  unfold Pg.unpackS
  have h1 := numS_le b 1024 (0, 0) (Nat.zero_le _)
  have h2 := listS_le b 64 (Pg.numS b 1024 (0, 0)).2 h1.2
  have h3 := (manyS_le b (Pg.listS b 64 (Pg.numS b 1024 (0, 0)).2).1 (Pg.listS b 64 (Pg.numS b 1024 (0, 0)).2).2 [] h2.2 (fun x hx => by cases hx)).2.2
  have h4 : (Pg.rowS b).1.length ≤ 64 := by
    have : (Pg.rowS b).1.length = ([] : List In).length + (Pg.listS b 64 (Pg.numS b 1024 (0, 0)).2).1 := h3
    rw [this]
    simpa using h2.1
  split
  · exact Nat.zero_le _
  split
  · exact Nat.zero_le _
  split
  · exact Nat.zero_le _
  · exact h4
set_option maxRecDepth 20000 in
set_option maxHeartbeats 2000000 in
theorem progOpens_walk (b : ByteArray) (_ : b.size ≤ 140737488351232) (w : World) (hT : Libs w) :
    Calls Tryz.prog 4 #[.string b] w fun e w' => e = .returned (.bool true) ∧ Below w.heap.size w w' := by
  have HU := hide (fun W => unpack_any b W)
  have HV := hide (fun W => runpack_any b W)
  rw [runpack_eq] at HV
  have hln := unpackS_len b
  generalize Pg.unpackS b = U at *
  obtain ⟨⟨F, xs⟩, E⟩ := U
  have hln : xs.length ≤ 64 := hln
  have HT := hide hT
  have hE : (E != E) = false := by simp
  clear hT
  go_enter Tryz.func4, Tryz.ntmps4
  go_wp2_with fail
  go_loopw [3] (fun s3 wr => ∃ (t : Nat), t ≤ 2 ∧ s3 = .int .i64 (t : Int) ∧ Hid (Below w.heap.size w wr)) (fun s _ => 2 - (intOf s).toNat)
  case atStart => exact ⟨0, Nat.zero_le _, rfl, Below.refl _ _⟩
  case round =>
    obtain ⟨t, ht, rfl, HB⟩ := hrel
    by_cases htn : t < 2
    · have hti : (t : Int) < 2 := by omega
      go_wp2_with fail
      refine (HU.out wr).mono ?_
      rintro e w1 ⟨v, rfl, hO1, hb1⟩
      obtain ⟨ad1, cap1, rfl⟩ := own_slice hO1
      have HO1 := hide hO1
      have HB1 := hide hb1
      clear hO1 hb1
      go_wp2_with fail
      have HO2 := hide (own_grown HO1.out (grown_one w1 (.cells #[.int .i64 (F : Int), .slice ad1 xs.length cap1] 24) none) (fun _ _ => by simp))
      have HP2 : Hid (Pb (w1.alloc (.cells #[.int .i64 (F : Int), .slice ad1 xs.length cap1] 24)) w1.heap.size (F : Int) (.slice ad1 xs.length cap1)) := heap_alloc_new w1 _
      have HB2 := hide (HB1.out.alloc HB1.out.size (.cells #[.int .i64 (F : Int), .slice ad1 xs.length cap1] 24))
      clear HO1 HB1
      generalize w1.alloc (.cells #[.int .i64 (F : Int), .slice ad1 xs.length cap1] 24) = w2 at *
      refine (HV.out w2).mono ?_
      rintro e w3 ⟨v', rfl, hO3, hb3⟩
      obtain ⟨ad2, cap2, rfl⟩ := own_slice hO3
      have HO3 := hide (own_below HO2.out hb3)
      have HP3 := hide (HP2.out.grown (grown_below hb3 none) (by simp))
      have HB3 : Hid (Below wr.heap.size wr w3) := HB2.out.trans (hb3.mono HB2.out.size)
      have HV3 := hide hO3
      clear hO3 hb3 HO2 HP2 HB2
      have p0 := Lib.cell?_alloc_some (.cells #[.int .i64 (F : Int), .slice ad2 xs.length cap2] 24) HP3.out.c0
      have p1 := Lib.cell?_alloc_some (.cells #[.int .i64 (F : Int), .slice ad2 xs.length cap2] 24) HP3.out.c1
      go_wp2_with fail
      have HO4 := hide (own_grown HO3.out (grown_one w3 (.cells #[.int .i64 (F : Int), .slice ad2 xs.length cap2] 24) none) (fun _ _ => by simp))
      have HV4 := hide (own_grown HV3.out (grown_one w3 (.cells #[.int .i64 (F : Int), .slice ad2 xs.length cap2] 24) none) (fun _ _ => by simp))
      have HP4 := hide (HP3.out.grown (grown_one w3 (.cells #[.int .i64 (F : Int), .slice ad2 xs.length cap2] 24) none) (by simp))
      have HQ4 : Hid (Pb (w3.alloc (.cells #[.int .i64 (F : Int), .slice ad2 xs.length cap2] 24)) w3.heap.size (F : Int) (.slice ad2 xs.length cap2)) := heap_alloc_new w3 _
      have HB4 := hide (HB3.out.alloc HB3.out.size (.cells #[.int .i64 (F : Int), .slice ad2 xs.length cap2] 24))
      clear HO3 HV3 HP3 HB3
      generalize w3.alloc (.cells #[.int .i64 (F : Int), .slice ad2 xs.length cap2] 24) = w4 at *
      clear p0 p1
      refine (same_self (F : Int) xs (.slice ad1 xs.length cap1) (.slice ad2 xs.length cap2) w4 (own_cd HO4.out) (own_cd HV4.out) (by omega)).mono ?_
      rintro e w5 ⟨rfl, hb5⟩
      have HO5 := hide (own_below HO4.out hb5)
      have HP5 := hide (HP4.out.grown (grown_below hb5 none) (by simp))
      have HB5 : Hid (Below wr.heap.size wr w5) := HB4.out.trans (hb5.mono HB4.out.size)
      have p0 := HP5.out.c0
      have p1 := HP5.out.c1
      clear hb5 HO4 HV4 HP4 HQ4 HB4
      go_wp2_with fail
      refine (spoil_any (base := wr.heap.size) (by omega) HO5.out HB5.out.size).mono ?_
      rintro e w6 ⟨rfl, hb6⟩
      have HB6 : Hid (Below w.heap.size w w6) := HB.out.trans ((HB5.out.trans hb6).mono HB.out.size)
      clear hb6 HO5 HP5 HB5 p0 p1
      go_wp2_with fail
      go_roundw
      case rel => exact ⟨t + 1, by omega, by go_num, HB6⟩
      case measure => simp [intOf]; omega
    · obtain rfl : t = 2 := by omega
      have hti : ¬ (2 : Int) < 2 := by omega
      go_wp2_with fail
      refine (awake_true wr (HT.out.below HB.out (Nat.le_refl _))).mono ?_
      rintro e w5 ⟨rfl, hb5⟩
      have HB5 : Hid (Below w.heap.size w w5) := HB.out.trans (hb5.mono HB.out.size)
      clear hb5
      go_wp2
      go_ret
      exact ⟨rfl, HB5.out⟩
end Go.Proofs.YtjkkjijlblfgaaaGreatDoor
end
