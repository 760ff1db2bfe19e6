import Derived.Test.YteiickpokabmoabDkE
namespace Go.Proofs.Yteiickpokabmoab.D
open Go.RowKit

/-- Write's ways that change nothing -/
theorem DS.write_dead {d : DS} (h : d.dead = true) (k : Int) (data : ByteArray) : d.write k data = (2, d) := by unfold DS.write; rw [if_pos h]
theorem DS.write_none {d : DS} (h : d.dead = false) {k : Int} (hk : ¬ (0 ≤ k ∧ k < (d.S.length : Int))) (data : ByteArray) : d.write k data = (40, d) := by unfold DS.write; rw [if_neg (by simp [h]), if_pos hk]
theorem DS.write_size {d : DS} (h : d.dead = false) {k : Int} (hk : 0 ≤ k ∧ k < (d.S.length : Int)) {data : ByteArray} (hd : data.size ≠ 128) : d.write k data = (41, d) := by unfold DS.write; rw [if_neg (by simp [h]), if_neg (by simpa using hk), if_pos hd]
theorem DS.write_cut {d : DS} (h : d.dead = false) {k : Int} (hk : 0 ≤ k ∧ k < (d.S.length : Int)) {data : ByteArray} (hd : data.size = 128) (hl : d.left = 1) : d.write k data = (2, { d with S := layS d.S k.toNat (data.extract 0 d.byt.toNat), dead := true }) := by
  unfold DS.write; rw [if_neg (by simp [h]), if_neg (by simpa using hk), if_neg (by simpa using hd), if_pos hl]
theorem DS.write_all {d : DS} (h : d.dead = false) {k : Int} (hk : 0 ≤ k ∧ k < (d.S.length : Int)) {data : ByteArray} (hd : data.size = 128) (hl : d.left ≠ 1) : d.write k data = (0, { d with S := layS d.S k.toNat data, R := d.R ++ [⟨k, data⟩], left := if 0 < d.left then d.left - 1 else d.left }) := by
  unfold DS.write; rw [if_neg (by simp [h]), if_neg (by simpa using hk), if_neg (by simpa using hd), if_neg hl]

theorem two_new (w : World) (u v : Value) (t : TypeId) : ∀ j x, [u, v][j]? = some x → (w.alloc (.cells #[u, v] t)).cell? ((⟨w.heap.size, 0, none⟩ : Addr).add j) = some x := by
  intro j x hj
  match j, hj with
  | 0, hj => simp at hj; subst hj; simp [Addr.add]
  | 1, hj => simp at hj; subst hj; simp [Addr.add]
theorem kept_one {base : Nat} {w2 w3 : World} {b : Nat} {vs vr : Value} {d : DS} {o : Obj} (h : DkV base w2 b vs vr d) (hg : (w2.alloc o).grownBy w3 vr.ownBlock) :
    w3.cell? ⟨b, 1, none⟩ = some vr ∧ w3.frozen? ⟨b, 1, none⟩ = false := by
  have e : w3.heap[b]? = w2.heap[b]? := (hg.block b (by rw [World.size_alloc]; have := h.lt; omega) (fun e => h.a2 e.symm)).trans (Below.heap_alloc w2 o b h.lt)
  have e2 := e.trans h.blk
  exact ⟨by simp [World.cell?, e2], by simp [World.frozen?, e2]⟩
theorem write_end {base : Nat} {w2 w3 : World} {b g cap : Nat} {vs vr : Value} {d : DS} {o : Obj} {x : Wr} (h : DkV base w2 b vs vr d) (hown : w3.ownsRow base 51 2 (.slice (some ⟨g, 0, none⟩) (d.R.length + 1) cap) (d.R.length + 1) (wcs d.R ++ [.int .i64 x.sec, .string x.data])) (hg : (w2.alloc o).grownBy w3 vr.ownBlock)
    (hat : vr.ownBlock = some g ∨ g = (w2.alloc o).heap.size) (hok : DS.ok { d with R := d.R ++ [x] }) :
    DkV base (w3.setCell ⟨b, 1, none⟩ (.slice (some ⟨g, 0, none⟩) (d.R.length + 1) cap)) b vs (.slice (some ⟨g, 0, none⟩) (d.R.length + 1) cap) { d with R := d.R ++ [x] } ∧ Mv (Fd b vs vr) (Fd b vs (.slice (some ⟨g, 0, none⟩) (d.R.length + 1) cap)) w2 (w3.setCell ⟨b, 1, none⟩ (.slice (some ⟨g, 0, none⟩) (d.R.length + 1) cap)) := by
  rw [World.size_alloc] at hat
  have hlt := h.lt
  have hs2 := hg.size
  rw [World.size_alloc] at hs2
  have far : ∀ k, k < w2.heap.size → vr.ownBlock ≠ some k → w3.heap[k]? = w2.heap[k]? := fun k hk hn => (hg.block k (by rw [World.size_alloc]; omega) (fun e => hn e.symm)).trans (Below.heap_alloc w2 o k hk)
  have hgb : g ≠ b := by
    rcases hat with e | e
    · exact fun e2 => h.a2 (by rw [← e2]; exact e)
    · omega
  have hgs : vs.ownBlock ≠ some g := by
    rcases hat with e | e
    · exact fun e2 => h.a3 g e2 e
    · exact fun e2 => absurd (h.sec.lt g e2).2 (by omega)
  refine ⟨⟨?_, h.low, ?_, ?_, h.a1, ?_, ?_, hok⟩, hg.os, hg.tape, hg.output, ?_, fun k hk hn => ?_, fun k hk => ?_⟩
  · rw [setFive ((far b hlt h.a2).trans h.blk) 1 _]; rfl
  · refine own_keep h.sec fun k hk => ?_
    rw [Below.heap_setCell _ _ _ k (fun e => h.a1 (by rw [← (show k = b from e)]; exact hk)), far k (h.sec.lt k hk).2 (h.a3 k hk)]
  · show World.ownsRow _ _ _ _ _ (d.R ++ [x]).length (wcs (d.R ++ [x]))
    rw [List.length_append, wcs_append, wcs_one]
    refine own_keep hown fun k hk => Below.heap_setCell _ _ _ k (fun e => hgb ?_)
    simp only [Value.ownBlock] at hk
    injection hk with hk
    exact hk.trans e
  · simp only [Value.ownBlock]; intro e; injection e with e; exact hgb e
  · intro k hk; simp only [Value.ownBlock]; intro e; injection e with e; exact hgs (by rw [e]; exact hk)
  · rw [setCell_size]; omega
  · rw [Below.heap_setCell _ _ _ k (fun e => hn (.inl e)), far k hk (fun e => hn (.inr (.inr e)))]
  · rcases hk with hk | hk | hk
    · exact .inl (.inl hk)
    · exact .inl (.inr (.inl hk))
    · simp only [Value.ownBlock] at hk
      injection hk with hk
      subst hk
      rcases hat with e | e
      · exact .inl (.inr (.inr e))
      · exact .inr (by omega)

set_option maxHeartbeats 1000000 in
set_option maxRecDepth 8000 in
theorem write_any {base : Nat} {w : World} {b : Nat} {F : Nat → Prop} {d : DS} (h : Dk base w b F d) (k : Int) (data : ByteArray) (hR : (d.R.length + 1) * 24 ≤ 140737488355328) :
    Calls Try.prog 44 #[.pointer (some ⟨b, 0, none⟩), .int .i64 k, .string data] w fun e w' => e = .returned (.int .i64 (d.write k data).1) ∧ ∃ F', Dk base w' b F' (d.write k data).2 ∧ Mv F F' w w' := by
  have hsz := size_any h
  obtain ⟨vs, vr, h, rfl⟩ := h
  have c2 := h.c2
  have c3 := h.c3
  have c4 := h.c4
  have z := h.z
  have hS := h.ok.s1
  have HSZ := hide hsz
  obtain ⟨i0, hi0, hz0, hz1, hz2⟩ := info_parts Try.infoW
  clear hsz
  cases hd : d.dead
  · rw [hd] at c2
    by_cases hk : 0 ≤ k ∧ k < (d.S.length : Int)
    · obtain ⟨n, rfl⟩ : ∃ n : Nat, k = (n : Int) := ⟨k.toNat, by omega⟩
      have hn : n < d.S.length := by omega
      have b0 : decide ((0 : Int) ≤ (n : Int)) = true := by simp
      have b1 : decide ((n : Int) < (d.S.length : Int)) = true := by simp; omega
      by_cases hz : data.size = 128
      · by_cases hl : d.left = 1
        · rw [DS.write_cut hd hk hz hl]
          rw [hl] at c3
          have q0 := h.ok.b0
          have q1 := h.ok.b1
          have HOK := hide (DS.write_ok h.ok (n : Int) data)
          rw [DS.write_cut hd hk hz hl, Int.toNat_natCast] at HOK
          rw [Int.toNat_natCast]
          have HL := hide (lay_any h n (data.extract 0 d.byt.toNat) hn (by rw [ext_size]; omega))
          have H := hide h
          clear h hk
          go_enter Try.func44, Try.ntmps44
          go_wp2_with (first
            | (go_at_call 24; refine HSZ.out.mono ?_; rintro e w1 ⟨rfl, rfl⟩)
            | (go_at_call 57; refine HL.out.mono ?_; rintro e w2 ⟨rfl, hD2, hM2⟩; have k2 := hD2.c2; have k3 := hD2.z; have HD2 := hide hD2; have HM2 := hide hM2; clear hD2 hM2)
            | go_in)
          go_ret
          refine ⟨rfl, _, ⟨vs, vr, HD2.out.put ?_ (fun j hj _ => Below.heap_setCell _ _ _ j hj) rfl rfl HOK.out, rfl⟩, HM2.out.set (.inl rfl) _⟩
          rw [setFive HD2.out.blk 2 _]; rfl
        · rw [DS.write_all hd hk hz hl]
          have b3 : decide (d.left = 1) = false := by simpa using hl
          have HOK := hide (DS.write_ok h.ok (n : Int) data)
          rw [DS.write_all hd hk hz hl, Int.toNat_natCast] at HOK
          rw [Int.toNat_natCast]
          have q0 := h.ok.l0
          have q1 := h.ok.l1
          by_cases hp : 0 < d.left
          · rw [if_pos hp] at HOK ⊢
            have b4 : decide (0 < d.left) = true := by simpa using hp
            have HP : Hid (DkV base (w.setCell ⟨b, 3, none⟩ (.int .i64 (d.left - 1))) b vs vr { d with left := d.left - 1 }) := by
              refine h.put ?_ (fun j hj _ => Below.heap_setCell _ _ _ j hj) rfl rfl ⟨h.ok.s128, by show 0 ≤ d.left - 1; omega, by show d.left - 1 ≤ _; omega, h.ok.b0, h.ok.b1, h.ok.s0, h.ok.s1⟩
              rw [setFive h.blk 3 _]; rfl
            have HL := hide (lay_any HP.out n data hn (by omega))
            have HM := hide ((Mv.refl (F := Fd b vs vr) w).set (a := ⟨b, 3, none⟩) (.inl rfl) (.int .i64 (d.left - 1)))
            clear h hk
            go_enter Try.func44, Try.ntmps44
            go_wp2_with (first
              | (go_at_call 24; refine HSZ.out.mono ?_; rintro e w1 ⟨rfl, rfl⟩)
              | (go_at_call 57; refine HL.out.mono ?_; rintro e w2 ⟨rfl, hD2, hM2⟩; have k1 := hD2.c1; have hl2 := hD2.lt; have HD2 := hide hD2; have HM2 := hide (HM.out.trans hM2); clear hD2 hM2)
              | (at_builtin; refine wpList_append_lies _ rfl _ _ 43 rfl base 51 i0 (.agg #[.int .i64 0, .string ByteArray.empty]) 2 24 Try.underlying43 hi0 hz0 hz1 hz2 rfl (by decide) vr d.R.length (wcs d.R) rfl (HD2.out.raw.alloc _) ⟨w2.heap.size, 0, none⟩ 1 1 [.int .i64 (n : Int), .string data] rfl rfl (two_new _ _ _ _) (by intro u hu; simp at hu; rcases hu with rfl | rfl <;> rfl) (by decide) (by unfold maxLen; omega) (by omega) (by rw [World.size_alloc]; have := HD2.out.lt; have := HD2.out.low; omega) _ rfl ?_; intro g3 cap3 w3 hown3 hgrow3 hat3 hlt3; obtain ⟨x1, x2⟩ := kept_one HD2.out hgrow3; have HO3 := hide hown3; have HG3 := hide hgrow3; have HA3 := hide hat3; clear hown3 hgrow3 hat3 hlt3)
              | go_in)
            go_ret
            have hE := write_end (d := ⟨layS d.S n data, d.R, d.dead, d.left - 1, d.byt⟩) HD2.out HO3.out HG3.out HA3.out HOK.out
            exact ⟨rfl, _, ⟨_, _, hE.1, rfl⟩, HM2.out.trans hE.2⟩
          · rw [if_neg hp] at HOK ⊢
            have b4 : decide (0 < d.left) = false := by simpa using hp
            have HL := hide (lay_any h n data hn (by omega))
            clear h hk
            go_enter Try.func44, Try.ntmps44
            go_wp2_with (first
              | (go_at_call 24; refine HSZ.out.mono ?_; rintro e w1 ⟨rfl, rfl⟩)
              | (go_at_call 57; refine HL.out.mono ?_; rintro e w2 ⟨rfl, hD2, hM2⟩; have k1 := hD2.c1; have hl2 := hD2.lt; have HD2 := hide hD2; have HM2 := hide hM2; clear hD2 hM2)
              | (at_builtin; refine wpList_append_lies _ rfl _ _ 43 rfl base 51 i0 (.agg #[.int .i64 0, .string ByteArray.empty]) 2 24 Try.underlying43 hi0 hz0 hz1 hz2 rfl (by decide) vr d.R.length (wcs d.R) rfl (HD2.out.raw.alloc _) ⟨w2.heap.size, 0, none⟩ 1 1 [.int .i64 (n : Int), .string data] rfl rfl (two_new _ _ _ _) (by intro u hu; simp at hu; rcases hu with rfl | rfl <;> rfl) (by decide) (by unfold maxLen; omega) (by omega) (by rw [World.size_alloc]; have := HD2.out.lt; have := HD2.out.low; omega) _ rfl ?_; intro g3 cap3 w3 hown3 hgrow3 hat3 hlt3; obtain ⟨x1, x2⟩ := kept_one HD2.out hgrow3; have HO3 := hide hown3; have HG3 := hide hgrow3; have HA3 := hide hat3; clear hown3 hgrow3 hat3 hlt3)
              | go_in)
            go_ret
            have hE := write_end (d := ⟨layS d.S n data, d.R, d.dead, d.left, d.byt⟩) HD2.out HO3.out HG3.out HA3.out HOK.out
            exact ⟨rfl, _, ⟨_, _, hE.1, rfl⟩, HM2.out.trans hE.2⟩
      · rw [DS.write_size hd hk hz]
        have b2 : ((data.size : Int) == 128) = false := by simp; omega
        have H := hide h
        clear h hk
        go_enter Try.func44, Try.ntmps44
        go_wp2_with (first
          | (go_at_call 24; refine HSZ.out.mono ?_; rintro e w1 ⟨rfl, rfl⟩)
          | go_in)
        go_ret
        exact ⟨rfl, _, ⟨vs, vr, H.out, rfl⟩, Mv.refl _⟩
    · rw [DS.write_none hd hk]
      have H := hide h
      by_cases h0 : 0 ≤ k
      · have b0 : decide ((0 : Int) ≤ k) = true := by simp; omega
        have b1 : decide (k < (d.S.length : Int)) = false := by simp; omega
        clear h hk h0
        go_enter Try.func44, Try.ntmps44
        go_wp2_with (first
          | (go_at_call 24; refine HSZ.out.mono ?_; rintro e w1 ⟨rfl, rfl⟩)
          | go_in)
        go_ret
        exact ⟨rfl, _, ⟨vs, vr, H.out, rfl⟩, Mv.refl _⟩
      · have b0 : decide ((0 : Int) ≤ k) = false := by simp; omega
        clear h hk h0
        go_enter Try.func44, Try.ntmps44
        go_wp2_with (first
          | (go_at_call 24; refine HSZ.out.mono ?_; rintro e w1 ⟨rfl, rfl⟩)
          | go_in)
        go_ret
        exact ⟨rfl, _, ⟨vs, vr, H.out, rfl⟩, Mv.refl _⟩
  · rw [hd] at c2
    rw [DS.write_dead hd]
    have H := hide h
    clear h
    go_enter Try.func44, Try.ntmps44
    go_wp2
    go_ret
    exact ⟨rfl, _, ⟨vs, vr, H.out, rfl⟩, Mv.refl _⟩
end Go.Proofs.Yteiickpokabmoab.D
