import Derived.Test.YtojghjgbnnkldaaMgAH

section
namespace Go.Proofs.Ytojghjgbnnkldaa.D
open Go.RowKit

theorem below_drew {B : Nat} {a b : World} (h : Below B a.drew b) : Below B a b := ⟨h.os, h.tape, h.output, h.size, h.block⟩
theorem clone_end {w W0 w1 w2 : World} {c : Nat} {v0 v1 vs' vr' : Value} {d : DS} (hok : d.ok) (hc : c = w.heap.size) (h0 : W0 = w.alloc (.cells #[v0, v1, .bool d.dead, .int .i64 d.left, .int .i64 d.byt] 55))
    (h1 : Below W0.heap.size W0 w1) (h2 : Below w1.heap.size w1 w2)
    (hs : w1.ownsRow W0.heap.size 76 128 vs' d.S.length (scs d.S)) (hr : w2.ownsRow w1.heap.size 80 2 vr' d.R.length (wcs d.R)) :
    DkV c ((w2.setCell ⟨c, 0, none⟩ vs').setCell ⟨c, 1, none⟩ vr') c vs' vr' d ∧ Below w.heap.size w ((w2.setCell ⟨c, 0, none⟩ vs').setCell ⟨c, 1, none⟩ vr') := by
  subst hc
  have hsz : W0.heap.size = w.heap.size + 1 := by rw [h0]; exact World.size_alloc _ _
  have hs1 := h1.size
  have hs2 := h2.size
  have hB : Below w.heap.size w w2 := by
    have a1 : Below w.heap.size w W0 := by rw [h0]; exact (Below.refl _ w).alloc (Nat.le_refl _) _
    exact a1.trans ((below_up h1 (by omega)).trans (below_up h2 (by omega)))
  have hblk : w2.heap[w.heap.size]? = some (.cells #[v0, v1, .bool d.dead, .int .i64 d.left, .int .i64 d.byt] 55 (0, 0)) := by
    rw [h2.block _ (by omega), h1.block _ (by omega), h0]; exact heap_alloc_new w _
  have k1 : ∀ k, vs'.ownBlock = some k → W0.heap.size ≤ k ∧ k < w1.heap.size := hs.lt
  have k2 : ∀ k, vr'.ownBlock = some k → w1.heap.size ≤ k ∧ k < w2.heap.size := hr.lt
  refine ⟨⟨?_, Nat.le_refl _, ?_, ?_, fun e => absurd (k1 _ e).1 (by omega), fun e => absurd (k2 _ e).1 (by omega), fun k h e => absurd (k1 k h).2 (by have := (k2 k e).1; omega), hok⟩, (hB.setCell (Nat.le_refl _) _).setCell (Nat.le_refl _) _⟩
  · rw [setFive (setFive hblk 0 _) 1 _]; rfl
  · refine own_base (own_keep hs fun k hk => ?_) (by omega)
    have := k1 k hk
    rw [Below.heap_setCell _ _ _ k (by show k ≠ w.heap.size; omega), Below.heap_setCell _ _ _ k (by show k ≠ w.heap.size; omega), h2.block k (by omega)]
  · refine own_base (own_keep hr fun k hk => ?_) (by omega)
    have := k2 k hk
    rw [Below.heap_setCell _ _ _ k (by show k ≠ w.heap.size; omega), Below.heap_setCell _ _ _ k (by show k ≠ w.heap.size; omega)]

set_option maxHeartbeats 1000000 in
set_option maxRecDepth 8000 in
theorem clone_any {base : Nat} {w : World} {b : Nat} {F : Nat → Prop} {d : DS} (h : Dk base w b F d) (hl : d.R.length * 24 ≤ 140737488355328) :
    Calls Try.prog 21 #[.pointer (some ⟨b, 0, none⟩)] w fun e w' => ∃ c F', e = .returned (.pointer (some ⟨c, 0, none⟩)) ∧ Dk w.heap.size w' c F' d ∧ Below w.heap.size w w' := by
  obtain ⟨vs, vr, h, rfl⟩ := h
  have c0 := h.c0
  have c1 := h.c1
  have c2 := h.c2
  have c3 := h.c3
  have c4 := h.c4
  have H := hide h
  have hlt := h.lt
  obtain ⟨ad0, cap0, hvs⟩ := own_slice h.sec
  obtain ⟨ad1, cap1, hvr⟩ := own_slice h.raw
  subst hvs; subst hvr
  clear h
  go_enter Try.func21, Try.ntmps21
  go_wp2_with fail
  obtain ⟨W0, hW0⟩ : ∃ W0, w.alloc (.cells #[.slice ad0 d.S.length cap0, .slice ad1 d.R.length cap1, .bool d.dead, .int .i64 d.left, .int .i64 d.byt] 55) = W0 := ⟨_, rfl⟩
  rw [hW0]
  have H0 : Hid (DkV base W0 b (.slice ad0 d.S.length cap0) (.slice ad1 d.R.length cap1) d) := by
    rw [← hW0]; exact H.out.keep fun k hk => Below.heap_alloc _ _ k (H.out.ftlt k hk).2
  have hnb : W0.heap[w.heap.size]? = some (.cells #[.slice ad0 d.S.length cap0, .slice ad1 d.R.length cap1, .bool d.dead, .int .i64 d.left, .int .i64 d.byt] 55 (0, 0)) := by rw [← hW0]; exact heap_alloc_new w _
  have HNB := hide hnb
  have HW := hide hW0.symm
  have hwl : w.heap.size < W0.heap.size := lt_of_block hnb
  clear hnb hW0 c0 c1 c2 c3 c4
  have c0 := H0.out.c0
  have c1 := H0.out.c1
  have hbn : b ≠ w.heap.size := by omega
  have hbn' : w.heap.size ≠ b := by omega
  have C1 := hide (sclone_any (w := W0.drew) H0.out.sec H0.out.ok.s128 H0.out.ok.s0 H0.out.ok.s1)
  have C2 : Hid (∀ w1, Below W0.heap.size W0 w1 → _) := fun w1 (hb : Below W0.heap.size W0 w1) => wclone_any (H0.out.keep (fun k hk => hb.block k (H0.out.ftlt k hk).2)).raw hl
  have K0 : Hid (∀ w1, Below W0.heap.size W0 w1 → w1.cell? ⟨b, 0, none⟩ = some (.slice ad0 d.S.length cap0) ∧ w1.cell? ⟨b, 1, none⟩ = some (.slice ad1 d.R.length cap1) ∧ w1.cell? ⟨w.heap.size, 0, none⟩ = some (.slice ad0 d.S.length cap0) ∧ w1.cell? ⟨w.heap.size, 1, none⟩ = some (.slice ad1 d.R.length cap1) ∧ (∀ k, w1.frozen? ⟨w.heap.size, k, none⟩ = false)) := by
    intro w1 hb
    have h1 := H0.out.keep (fun k hk => hb.block k (H0.out.ftlt k hk).2)
    have h2 := (hb.block _ hwl).trans HNB.out
    exact ⟨h1.c0, h1.c1, by simp [World.cell?, h2], by simp [World.cell?, h2], fun k => by simp [World.frozen?, h2]⟩
  go_region_held3 (fun w' => w'.cell? ⟨b, 0, none⟩ = some (.slice ad0 d.S.length cap0) ∧ w'.cell? ⟨b, 1, none⟩ = some (.slice ad1 d.R.length cap1)) (go_keep) (first
    | (go_at_call 43; refine C1.out.mono ?_; rintro e w1 ⟨v1, rfl, hown1, hb1⟩; obtain ⟨ad2, cap2, rfl⟩ := own_slice hown1; have HO1 := hide hown1; have HL1 := hide (below_drew hb1); obtain ⟨k0, k1, k2, k3, k4⟩ := K0.out w1 (below_drew hb1); clear hown1 hb1)
    | (go_at_call 44; refine (C2.out w1 HL1.out).mono ?_; rintro e w2 ⟨v2, rfl, hown2, hb2⟩; obtain ⟨ad3, cap3, rfl⟩ := own_slice hown2; have HO2 := hide hown2; have HL2 := hide hb2; clear k0 k1 k2 k3 k4; obtain ⟨k0, k1, k2, k3, k4⟩ := K0.out w2 (HL1.out.trans (below_up hb2 HL1.out.size)); clear hown2 hb2))
  go_wp2
  go_ret
  have hE := clone_end (c := w.heap.size) H0.out.ok rfl HW.out HL1.out HL2.out HO1.out HO2.out
  exact ⟨_, _, rfl, ⟨_, _, hE.1, rfl⟩, hE.2⟩

theorem made_str (n : Nat) : (madeCells (Value.string ByteArray.empty).cells (n * 1)).toList = List.replicate n (.string ByteArray.empty) := by
  apply List.ext_getElem
  · rw [Array.length_toList, size_madeCells, List.length_replicate, Nat.mul_one]
  · intro i h1 h2
    simp [madeCells, Value.cells, Nat.mod_one]
/-- what stands of l in Sectors' round i -/
def strX (S : List ByteArray) (i : Nat) : List Value := (S.take i).map .string ++ List.replicate (S.length - i) (.string ByteArray.empty)
theorem strX_len {S : List ByteArray} {i : Nat} (h : i ≤ S.length) : (strX S i).length = S.length := by simp [strX]; omega
theorem strX_step {S : List ByteArray} {i : Nat} (h : i < S.length) : (strX S i).set i (.string S[i]) = strX S (i + 1) := by
  have e : S.length - i = (S.length - (i + 1)) + 1 := by omega
  have hl : ((S.take i).map Value.string).length = i := by simp; omega
  unfold strX
  rw [e, List.replicate_succ, List.set_append_right _ _ (by omega), hl, Nat.sub_self, List.set_cons_zero, List.take_succ_eq_append_getElem h, List.map_append, List.append_assoc]
  rfl
theorem strX_all (S : List ByteArray) : strX S S.length = S.map .string := by simp [strX]

set_option maxHeartbeats 400000 in
theorem sectors_any {base : Nat} {w : World} {b : Nat} {F : Nat → Prop} {d : DS} (h : Dk base w b F d) :
    Calls Try.prog 19 #[.pointer (some ⟨b, 0, none⟩)] w fun e w' => ∃ v', e = .returned v' ∧ w'.ownsRow w.heap.size 9 1 v' d.S.length (d.S.map .string) ∧ Below w.heap.size w w' := by
  have hsz := size_any h
  obtain ⟨vs, vr, h, rfl⟩ := h
  obtain ⟨i0, hi0, hz0, hz1, hz2⟩ := info_parts Try.infoS
  obtain ⟨g, cap, hv, hg, hc, hcm⟩ := h.form
  have c0 := h.c0
  rw [hv] at c0
  subst hv
  have hS := h.ok.s1
  have hmk := run_make (P := Try.prog) w 30 9 i0 (.string ByteArray.empty) Try.underlying30 hi0 hz0 .i64 .i64 (d.S.length : Int) (d.S.length : Int) (by omega) (Int.le_refl _) (by rw [hz2]; omega) (by omega)
  rw [Int.toNat_natCast, hz1] at hmk
  have H := hide h
  have HSZ := hide hsz
  have hlt := h.lt
  have START : Hid ((w.alloc (.cells (madeCells #[Value.string ByteArray.empty] d.S.length) 9)).ownsRow w.heap.size 9 1 (.slice (some ⟨w.heap.size, 0, none⟩) d.S.length d.S.length) d.S.length (strX d.S 0)) := by
    have e := made_str d.S.length
    rw [Nat.mul_one] at e
    refine ⟨by rw [strX_len (Nat.zero_le _)]; omega, .inr ⟨_, _, _, rfl, Nat.le_refl _, heap_alloc_new w _, Nat.le_refl _, by unfold maxLen; omega, by rw [size_madeCells]; omega, ?_⟩⟩
    rw [show madeCells #[Value.string ByteArray.empty] d.S.length = madeCells (Value.string ByteArray.empty).cells d.S.length from rfl, e, List.take_of_length_le (by simp)]
    simp [strX]
  clear h hsz
  go_enter Try.func19, Try.ntmps19
  go_wp2_with (go_at_call 42; refine HSZ.out.mono ?_; rintro e w1 ⟨rfl, rfl⟩)
  go_loopw [13] (fun u wr => ∃ i : Nat, u = .int .i64 (i : Int) ∧ i ≤ d.S.length ∧ wr.ownsRow w1.heap.size 9 1 (.slice (some ⟨w1.heap.size, 0, none⟩) d.S.length d.S.length) d.S.length (strX d.S i) ∧ Below w1.heap.size w1 wr) (fun u _ => (d.S.length - (intOf u).toNat))
  case atStart => exact ⟨0, rfl, Nat.zero_le _, START.out, (Below.refl _ w1).alloc (Nat.le_refl _) _⟩
  case round =>
    obtain ⟨i, rfl, hi, hown, hbel⟩ := hrel
    have HB := H.out.keep (fun k hk => hbel.block k (H.out.ftlt k hk).2)
    have c0' := HB.c0
    have HOWN := hide hown
    have HBEL := hide hbel
    by_cases hil : i < d.S.length
    · have b0 : decide ((i : Int) < (d.S.length : Int)) = true := by simp; omega
      have hcv := sec_str HB hil
      have e1 := hown.cellAt i (by omega)
      rw [List.getElem?_eq_getElem (by rw [strX_len hi]; exact hil)] at e1
      have e2 := hown.frozenAt i
      have hst := hown.stored i (.string d.S[i])
      rw [strX_step hil] at hst
      have HST := hide hst
      have hb2 : Below w1.heap.size w1 (wr.setCell ⟨w1.heap.size, i, none⟩ (.string d.S[i])) := hbel.setCell (Nat.le_refl _) _
      have HB2 := hide hb2
      clear hown hbel HB hst hb2
      go_wp2
      exact ⟨⟨i + 1, by go_num, by omega, HST.out.1, HB2.out⟩, by simp [intOf]; omega⟩
    · obtain rfl : i = d.S.length := by omega
      have b0 : decide ((d.S.length : Int) < (d.S.length : Int)) = false := by simp
      clear hown hbel HB
      go_wp2
      go_ret
      exact ⟨_, rfl, by rw [← strX_all]; exact HOWN.out, HBEL.out⟩
end Go.Proofs.Ytojghjgbnnkldaa.D
end

section
namespace Go.Proofs.Ytojghjgbnnkldaa.D
open Go.RowKit

/-- Write's ways that change nothing -/
theorem DS.write_dead {d : DS} (h : d.dead = true) (k : Int) (data : ByteArray) : d.write k data = (2, d) := by unfold DS.write; rw [if_pos h]
theorem DS.write_none {d : DS} (h : d.dead = false) {k : Int} (hk : ¬ (0 ≤ k ∧ k < (d.S.length : Int))) (data : ByteArray) : d.write k data = (40, d) := by unfold DS.write; rw [if_neg (by simp [h]), if_pos hk]
theorem DS.write_size {d : DS} (h : d.dead = false) {k : Int} (hk : 0 ≤ k ∧ k < (d.S.length : Int)) {data : ByteArray} (hd : data.size ≠ 128) : d.write k data = (41, d) := by unfold DS.write; rw [if_neg (by simp [h]), if_neg (by simpa using hk), if_pos hd]
theorem DS.write_cut {d : DS} (h : d.dead = false) {k : Int} (hk : 0 ≤ k ∧ k < (d.S.length : Int)) {data : ByteArray} (hd : data.size = 128) (hl : d.left = 1) : d.write k data = (2, { d with S := layS d.S k.toNat (data.extract 0 d.byt.toNat), dead := true }) := by
  unfold DS.write; rw [if_neg (by simp [h]), if_neg (by simpa using hk), if_neg (by simpa using hd), if_pos hl]
theorem DS.write_all {d : DS} (h : d.dead = false) {k : Int} (hk : 0 ≤ k ∧ k < (d.S.length : Int)) {data : ByteArray} (hd : data.size = 128) (hl : d.left ≠ 1) : d.write k data = (0, { d with S := layS d.S k.toNat data, R := d.R ++ [⟨k, data⟩], left := if 0 < d.left then d.left - 1 else d.left }) := by
  unfold DS.write; rw [if_neg (by simp [h]), if_neg (by simpa using hk), if_neg (by simpa using hd), if_neg hl]

theorem two_new (w : World) (u v : Value) (t : TypeId) : ∀ j x, [u, v][j]? = some x → (w.alloc (.cells #[u, v] t)).cell? ((⟨w.heap.size, 0, none⟩ : Addr).add j) = some x := by
  intro j x hj
  match j, hj with
  | 0, hj => simp at hj; subst hj; simp [Addr.add]
  | 1, hj => simp at hj; subst hj; simp [Addr.add]
theorem kept_one {base : Nat} {w2 w3 : World} {b : Nat} {vs vr : Value} {d : DS} {o : Obj} (h : DkV base w2 b vs vr d) (hg : (w2.alloc o).grownBy w3 vr.ownBlock) :
    w3.cell? ⟨b, 1, none⟩ = some vr ∧ w3.frozen? ⟨b, 1, none⟩ = false := by
  have e : w3.heap[b]? = w2.heap[b]? := (hg.block b (by rw [World.size_alloc]; have := h.lt; omega) (fun e => h.a2 e.symm)).trans (Below.heap_alloc w2 o b h.lt)
  have e2 := e.trans h.blk
  exact ⟨by simp [World.cell?, e2], by simp [World.frozen?, e2]⟩
theorem write_end {base : Nat} {w2 w3 : World} {b g cap : Nat} {vs vr : Value} {d : DS} {o : Obj} {x : Wr} (h : DkV base w2 b vs vr d) (hown : w3.ownsRow base 80 2 (.slice (some ⟨g, 0, none⟩) (d.R.length + 1) cap) (d.R.length + 1) (wcs d.R ++ [.int .i64 x.sec, .string x.data])) (hg : (w2.alloc o).grownBy w3 vr.ownBlock)
    (hat : vr.ownBlock = some g ∨ g = (w2.alloc o).heap.size) (hok : DS.ok { d with R := d.R ++ [x] }) :
    DkV base (w3.setCell ⟨b, 1, none⟩ (.slice (some ⟨g, 0, none⟩) (d.R.length + 1) cap)) b vs (.slice (some ⟨g, 0, none⟩) (d.R.length + 1) cap) { d with R := d.R ++ [x] } ∧ Mv (Fd b vs vr) (Fd b vs (.slice (some ⟨g, 0, none⟩) (d.R.length + 1) cap)) w2 (w3.setCell ⟨b, 1, none⟩ (.slice (some ⟨g, 0, none⟩) (d.R.length + 1) cap)) := by
  rw [World.size_alloc] at hat
  have hlt := h.lt
  have hs2 := hg.size
  rw [World.size_alloc] at hs2
  have far : ∀ k, k < w2.heap.size → vr.ownBlock ≠ some k → w3.heap[k]? = w2.heap[k]? := fun k hk hn => (hg.block k (by rw [World.size_alloc]; omega) (fun e => hn e.symm)).trans (Below.heap_alloc w2 o k hk)
  have hgb : g ≠ b := by
    rcases hat with e | e
    · exact fun e2 => h.a2 (by rw [← e2]; exact e)
    · omega
  have hgs : vs.ownBlock ≠ some g := by
    rcases hat with e | e
    · exact fun e2 => h.a3 g e2 e
    · exact fun e2 => absurd (h.sec.lt g e2).2 (by omega)
  refine ⟨⟨?_, h.low, ?_, ?_, h.a1, ?_, ?_, hok⟩, hg.os, hg.tape, hg.output, ?_, fun k hk hn => ?_, fun k hk => ?_⟩
  · rw [setFive ((far b hlt h.a2).trans h.blk) 1 _]; rfl
  · refine own_keep h.sec fun k hk => ?_
    rw [Below.heap_setCell _ _ _ k (fun e => h.a1 (by rw [← (show k = b from e)]; exact hk)), far k (h.sec.lt k hk).2 (h.a3 k hk)]
  · show World.ownsRow _ _ _ _ _ (d.R ++ [x]).length (wcs (d.R ++ [x]))
    rw [List.length_append, wcs_append, wcs_one]
    refine own_keep hown fun k hk => Below.heap_setCell _ _ _ k (fun e => hgb ?_)
    simp only [Value.ownBlock] at hk
    injection hk with hk
    exact hk.trans e
  · simp only [Value.ownBlock]; intro e; injection e with e; exact hgb e
  · intro k hk; simp only [Value.ownBlock]; intro e; injection e with e; exact hgs (by rw [e]; exact hk)
  · rw [setCell_size]; omega
  · rw [Below.heap_setCell _ _ _ k (fun e => hn (.inl e)), far k hk (fun e => hn (.inr (.inr e)))]
  · rcases hk with hk | hk | hk
    · exact .inl (.inl hk)
    · exact .inl (.inr (.inl hk))
    · simp only [Value.ownBlock] at hk
      injection hk with hk
      subst hk
      rcases hat with e | e
      · exact .inl (.inr (.inr e))
      · exact .inr (by omega)

set_option maxHeartbeats 1000000 in
set_option maxRecDepth 8000 in
theorem write_any {base : Nat} {w : World} {b : Nat} {F : Nat → Prop} {d : DS} (h : Dk base w b F d) (k : Int) (data : ByteArray) (hR : (d.R.length + 1) * 24 ≤ 140737488355328) :
    Calls Try.prog 48 #[.pointer (some ⟨b, 0, none⟩), .int .i64 k, .string data] w fun e w' => e = .returned (.int .i64 (d.write k data).1) ∧ ∃ F', Dk base w' b F' (d.write k data).2 ∧ Mv F F' w w' := by
  have hsz := size_any h
  obtain ⟨vs, vr, h, rfl⟩ := h
  have c2 := h.c2
  have c3 := h.c3
  have c4 := h.c4
  have z := h.z
  have hS := h.ok.s1
  have HSZ := hide hsz
  obtain ⟨i0, hi0, hz0, hz1, hz2⟩ := info_parts Try.infoW
  clear hsz
  cases hd : d.dead
  · rw [hd] at c2
    by_cases hk : 0 ≤ k ∧ k < (d.S.length : Int)
    · obtain ⟨n, rfl⟩ : ∃ n : Nat, k = (n : Int) := ⟨k.toNat, by omega⟩
      have hn : n < d.S.length := by omega
      have b0 : decide ((0 : Int) ≤ (n : Int)) = true := by simp
      have b1 : decide ((n : Int) < (d.S.length : Int)) = true := by simp; omega
      by_cases hz : data.size = 128
      · by_cases hl : d.left = 1
        · rw [DS.write_cut hd hk hz hl]
          rw [hl] at c3
          have q0 := h.ok.b0
          have q1 := h.ok.b1
          have HOK := hide (DS.write_ok h.ok (n : Int) data)
          rw [DS.write_cut hd hk hz hl, Int.toNat_natCast] at HOK
          rw [Int.toNat_natCast]
          have HL := hide (lay_any h n (data.extract 0 d.byt.toNat) hn (by rw [ext_size]; omega))
          have H := hide h
          clear h hk
          go_enter Try.func48, Try.ntmps48
          go_wp2_with (first
            | (go_at_call 42; refine HSZ.out.mono ?_; rintro e w1 ⟨rfl, rfl⟩)
            | (go_at_call 69; refine HL.out.mono ?_; rintro e w2 ⟨rfl, hD2, hM2⟩; have k2 := hD2.c2; have k3 := hD2.z; have HD2 := hide hD2; have HM2 := hide hM2; clear hD2 hM2)
            | go_in)
          go_ret
          refine ⟨rfl, _, ⟨vs, vr, HD2.out.put ?_ (fun j hj _ => Below.heap_setCell _ _ _ j hj) rfl rfl HOK.out, rfl⟩, HM2.out.set (.inl rfl) _⟩
          rw [setFive HD2.out.blk 2 _]; rfl
        · rw [DS.write_all hd hk hz hl]
          have b3 : decide (d.left = 1) = false := by simpa using hl
          have HOK := hide (DS.write_ok h.ok (n : Int) data)
          rw [DS.write_all hd hk hz hl, Int.toNat_natCast] at HOK
          rw [Int.toNat_natCast]
          have q0 := h.ok.l0
          have q1 := h.ok.l1
          by_cases hp : 0 < d.left
          · rw [if_pos hp] at HOK ⊢
            have b4 : decide (0 < d.left) = true := by simpa using hp
            have HP : Hid (DkV base (w.setCell ⟨b, 3, none⟩ (.int .i64 (d.left - 1))) b vs vr { d with left := d.left - 1 }) := by
              refine h.put ?_ (fun j hj _ => Below.heap_setCell _ _ _ j hj) rfl rfl ⟨h.ok.s128, by show 0 ≤ d.left - 1; omega, by show d.left - 1 ≤ _; omega, h.ok.b0, h.ok.b1, h.ok.s0, h.ok.s1⟩
              rw [setFive h.blk 3 _]; rfl
            have HL := hide (lay_any HP.out n data hn (by omega))
            have HM := hide ((Mv.refl (F := Fd b vs vr) w).set (a := ⟨b, 3, none⟩) (.inl rfl) (.int .i64 (d.left - 1)))
            clear h hk
            go_enter Try.func48, Try.ntmps48
            go_wp2_with (first
              | (go_at_call 42; refine HSZ.out.mono ?_; rintro e w1 ⟨rfl, rfl⟩)
              | (go_at_call 69; refine HL.out.mono ?_; rintro e w2 ⟨rfl, hD2, hM2⟩; have k1 := hD2.c1; have hl2 := hD2.lt; have HD2 := hide hD2; have HM2 := hide (HM.out.trans hM2); clear hD2 hM2)
              | (at_builtin; refine wpList_append_lies _ rfl _ _ 53 rfl base 80 i0 (.agg #[.int .i64 0, .string ByteArray.empty]) 2 24 Try.underlying53 hi0 hz0 hz1 hz2 rfl (by decide) vr d.R.length (wcs d.R) rfl (HD2.out.raw.alloc _) ⟨w2.heap.size, 0, none⟩ 1 1 [.int .i64 (n : Int), .string data] rfl rfl (two_new _ _ _ _) (by intro u hu; simp at hu; rcases hu with rfl | rfl <;> rfl) (by decide) (by unfold maxLen; omega) (by omega) (by rw [World.size_alloc]; have := HD2.out.lt; have := HD2.out.low; omega) _ rfl ?_; intro g3 cap3 w3 hown3 hgrow3 hat3 hlt3; obtain ⟨x1, x2⟩ := kept_one HD2.out hgrow3; have HO3 := hide hown3; have HG3 := hide hgrow3; have HA3 := hide hat3; clear hown3 hgrow3 hat3 hlt3)
              | go_in)
            go_ret
            have hE := write_end (d := ⟨layS d.S n data, d.R, d.dead, d.left - 1, d.byt⟩) HD2.out HO3.out HG3.out HA3.out HOK.out
            exact ⟨rfl, _, ⟨_, _, hE.1, rfl⟩, HM2.out.trans hE.2⟩
          · rw [if_neg hp] at HOK ⊢
            have b4 : decide (0 < d.left) = false := by simpa using hp
            have HL := hide (lay_any h n data hn (by omega))
            clear h hk
            go_enter Try.func48, Try.ntmps48
            go_wp2_with (first
              | (go_at_call 42; refine HSZ.out.mono ?_; rintro e w1 ⟨rfl, rfl⟩)
              | (go_at_call 69; refine HL.out.mono ?_; rintro e w2 ⟨rfl, hD2, hM2⟩; have k1 := hD2.c1; have hl2 := hD2.lt; have HD2 := hide hD2; have HM2 := hide hM2; clear hD2 hM2)
              | (at_builtin; refine wpList_append_lies _ rfl _ _ 53 rfl base 80 i0 (.agg #[.int .i64 0, .string ByteArray.empty]) 2 24 Try.underlying53 hi0 hz0 hz1 hz2 rfl (by decide) vr d.R.length (wcs d.R) rfl (HD2.out.raw.alloc _) ⟨w2.heap.size, 0, none⟩ 1 1 [.int .i64 (n : Int), .string data] rfl rfl (two_new _ _ _ _) (by intro u hu; simp at hu; rcases hu with rfl | rfl <;> rfl) (by decide) (by unfold maxLen; omega) (by omega) (by rw [World.size_alloc]; have := HD2.out.lt; have := HD2.out.low; omega) _ rfl ?_; intro g3 cap3 w3 hown3 hgrow3 hat3 hlt3; obtain ⟨x1, x2⟩ := kept_one HD2.out hgrow3; have HO3 := hide hown3; have HG3 := hide hgrow3; have HA3 := hide hat3; clear hown3 hgrow3 hat3 hlt3)
              | go_in)
            go_ret
            have hE := write_end (d := ⟨layS d.S n data, d.R, d.dead, d.left, d.byt⟩) HD2.out HO3.out HG3.out HA3.out HOK.out
            exact ⟨rfl, _, ⟨_, _, hE.1, rfl⟩, HM2.out.trans hE.2⟩
      · rw [DS.write_size hd hk hz]
        have b2 : ((data.size : Int) == 128) = false := by simp; omega
        have H := hide h
        clear h hk
        go_enter Try.func48, Try.ntmps48
        go_wp2_with (first
          | (go_at_call 42; refine HSZ.out.mono ?_; rintro e w1 ⟨rfl, rfl⟩)
          | go_in)
        go_ret
        exact ⟨rfl, _, ⟨vs, vr, H.out, rfl⟩, Mv.refl _⟩
    · rw [DS.write_none hd hk]
      have H := hide h
      by_cases h0 : 0 ≤ k
      · have b0 : decide ((0 : Int) ≤ k) = true := by simp; omega
        have b1 : decide (k < (d.S.length : Int)) = false := by simp; omega
        clear h hk h0
        go_enter Try.func48, Try.ntmps48
        go_wp2_with (first
          | (go_at_call 42; refine HSZ.out.mono ?_; rintro e w1 ⟨rfl, rfl⟩)
          | go_in)
        go_ret
        exact ⟨rfl, _, ⟨vs, vr, H.out, rfl⟩, Mv.refl _⟩
      · have b0 : decide ((0 : Int) ≤ k) = false := by simp; omega
        clear h hk h0
        go_enter Try.func48, Try.ntmps48
        go_wp2_with (first
          | (go_at_call 42; refine HSZ.out.mono ?_; rintro e w1 ⟨rfl, rfl⟩)
          | go_in)
        go_ret
        exact ⟨rfl, _, ⟨vs, vr, H.out, rfl⟩, Mv.refl _⟩
  · rw [hd] at c2
    rw [DS.write_dead hd]
    have H := hide h
    clear h
    go_enter Try.func48, Try.ntmps48
    go_wp2
    go_ret
    exact ⟨rfl, _, ⟨vs, vr, H.out, rfl⟩, Mv.refl _⟩
end Go.Proofs.Ytojghjgbnnkldaa.D
end

section
namespace Go.Proofs.Ytojghjgbnnkldaa.D
open Go.RowKit

def zsec : ByteArray := ⟨Array.replicate 128 0⟩
theorem zsec_size : zsec.size = 128 := by simp [zsec, ByteArray.size]
/-- a new disk -/
def fresh (S : List ByteArray) : DS := ⟨S, [], false, 0, 0⟩
theorem fresh_ok {S : List ByteArray} (h : A128 S) (h0 : 0 < S.length) (h1 : S.length ≤ 1026) : (fresh S).ok := ⟨h, Int.le_refl _, (by decide : (0 : Int) ≤ 9223372036854775807), Int.le_refl _, (by decide : (0 : Int) ≤ 128), h0, h1⟩
theorem rep_128 (n : Nat) : A128 (List.replicate n zsec) := fun s hs => by rw [(List.mem_replicate.1 hs).2]; exact zsec_size
theorem scs_rep (n : Nat) : scs (List.replicate n zsec) = List.replicate (n * 128) (.int .u8 0) := by
  induction n with
  | zero => rfl
  | succ n ih =>
    rw [List.replicate_succ, scs, ih, show sc zsec = List.replicate 128 (.int .u8 0) by simp [sc, zsec], List.replicate_append_replicate]
    congr 1
    omega
theorem made_sec (n : Nat) : (madeCells (Value.agg (Array.replicate 128 (.int .u8 0))).cells (n * 128)).toList = scs (List.replicate n zsec) := by
  rw [scs_rep]
  apply List.ext_getElem
  · rw [Array.length_toList, size_madeCells, List.length_replicate]
  · intro i h1 h2
    have hm : i % 128 < 128 := Nat.mod_lt _ (by decide)
    simp [madeCells, Value.cells, hm]

/-- the block of a new disk -/
theorem fresh_dk {w W : World} {S : List ByteArray} {b g : Nat} (hS : A128 S) (h0 : 0 < S.length) (h1 : S.length ≤ 1026) (hgb : g ≠ b) (hlb : w.heap.size ≤ b) (hlg : w.heap.size ≤ g)
    (hb : W.heap[b]? = some (.cells #[.slice (some ⟨g, 0, none⟩) S.length S.length, .slice none 0 0, .bool false, .int .i64 0, .int .i64 0] 55 (0, 0)))
    (hg : W.heap[g]? = some (.cells (scs S).toArray 76 (0, 0))) : Dk w.heap.size W b (Fd b (.slice (some ⟨g, 0, none⟩) S.length S.length) (.slice none 0 0)) (fresh S) := by
  refine ⟨_, _, ⟨hb, hlb, ⟨scs_len hS, .inr ⟨g, S.length, _, rfl, hlg, hg, Nat.le_refl _, by unfold maxLen; omega, by rw [List.size_toArray, scs_len hS], ?_⟩⟩, World.ownsRow_nil _ _ _ _, ?_, by simp [Value.ownBlock], fun k _ => by simp [Value.ownBlock], fresh_ok hS h0 h1⟩, rfl⟩
  · show List.take (S.length * 128) (scs S).toArray.toList = scs S
    rw [List.toList_toArray, ← scs_len hS, List.take_length]
  · simp only [Value.ownBlock]; intro e; injection e with e; exact hgb e

set_option maxHeartbeats 400000 in
theorem new_no {w : World} {n : Int} (h : ¬ (1 ≤ n ∧ n ≤ 1026)) :
    Calls Try.prog 8 #[.int .i64 n] w fun e w' => e = .returned (.tuple #[.pointer none, .int .i64 40]) ∧ w' = w := by
  by_cases h0 : 1 ≤ n
  · have b0 : decide (1 ≤ n) = true := by simp; omega
    have b1 : decide (n ≤ 1026) = false := by simp; omega
    clear h h0
    go_enter Try.func8, Try.ntmps8
    go_wp2
    go_ret2
    exact ⟨rfl, rfl⟩
  · have b0 : decide (1 ≤ n) = false := by simp; omega
    clear h h0
    go_enter Try.func8, Try.ntmps8
    go_wp2
    go_ret2
    exact ⟨rfl, rfl⟩

set_option maxHeartbeats 400000 in
theorem new_any {w : World} {n : Nat} (h0 : 1 ≤ n) (h1 : n ≤ 1026) :
    Calls Try.prog 8 #[.int .i64 (n : Int)] w fun e w' => ∃ b F, e = .returned (.tuple #[.pointer (some ⟨b, 0, none⟩), .int .i64 0]) ∧ Dk w.heap.size w' b F (fresh (List.replicate n zsec)) ∧ Below w.heap.size w w' := by
  obtain ⟨i0, hi0, hz0, hz1, hz2⟩ := info_parts Try.infoC
  have hmk : ∀ W : World, (Instr.makeSlice 52 (.int .i64 (n : Int)) (.int .i64 (n : Int))).run Try.prog W = .ok (.slice (some ⟨W.heap.size, 0, none⟩) n n) (W.alloc (.cells (scs (List.replicate n zsec)).toArray 76)) := by
    intro W
    have := run_make (P := Try.prog) W 52 76 i0 _ Try.underlying52 hi0 hz0 .i64 .i64 (n : Int) (n : Int) (by omega) (Int.le_refl _) (by rw [hz2]; omega) (by omega)
    rw [Int.toNat_natCast, hz1] at this
    rw [this, ← made_sec, Array.toArray_toList]
  have h8 := rep_128 n
  have hl : (List.replicate n zsec).length = n := List.length_replicate
  generalize List.replicate n zsec = S at *
  subst hl
  generalize hX : (scs S).toArray = X at hmk
  have HX := hide hX
  have b0 : decide ((1 : Int) ≤ (S.length : Int)) = true := by simp; omega
  have b1 : decide ((S.length : Int) ≤ 1026) = true := by simp; omega
  clear hX hi0 hz0 hz1 hz2 i0
  go_enter Try.func8, Try.ntmps8
  go_wp2
  go_ret2
  refine ⟨_, _, rfl, fresh_dk (g := w.heap.size) h8 h0 h1 (by omega) (by omega) (by omega) (by rw [show w.heap.size + 1 = (w.alloc (.cells X 76)).heap.size from (World.size_alloc _ _).symm]; exact heap_alloc_new _ _) ?_, ((Below.refl _ w).alloc (Nat.le_refl _) _).alloc (by rw [World.size_alloc]; omega) _⟩
  rw [Below.heap_alloc _ _ _ (by rw [World.size_alloc]; omega), HX.out]
  exact heap_alloc_new w _

/-- a slice of texts that is read -/
structure Rs (w : World) (ad : Option Addr) (ab ao : Nat) (l : List ByteArray) : Prop where
  at_ : 0 < l.length → ad = some ⟨ab, ao, none⟩
  cell : ∀ i (h : i < l.length), w.cell? ⟨ab, ao + i, none⟩ = some (.string l[i])
theorem Rs.lt {w : World} {ad : Option Addr} {ab ao : Nat} {l : List ByteArray} (h : Rs w ad ab ao l) (h0 : 0 < l.length) : ab < w.heap.size := World.block_lt_of_cell? _ _ (h.cell 0 h0)
theorem Rs.keep {w w' : World} {ad : Option Addr} {ab ao : Nat} {l : List ByteArray} (h : Rs w ad ab ao l) (hk : 0 < l.length → w'.heap[ab]? = w.heap[ab]?) : Rs w' ad ab ao l :=
  ⟨h.at_, fun i hi => (World.cell?_of_block (hk (by omega))).trans (h.cell i hi)⟩
theorem Rs.below {w w' : World} {ad : Option Addr} {ab ao : Nat} {l : List ByteArray} (h : Rs w ad ab ao l) (hb : Below w.heap.size w w') : Rs w' ad ab ao l := h.keep fun h0 => hb.block _ (h.lt h0)
theorem Rs.mv {w w' : World} {F F' : Nat → Prop} {ad : Option Addr} {ab ao : Nat} {l : List ByteArray} (h : Rs w ad ab ao l) (hm : Mv F F' w w') (hn : 0 < l.length → ¬ F ab) : Rs w' ad ab ao l := h.keep fun h0 => hm.block _ (h.lt h0) (hn h0)
theorem Rs.own {w : World} {B : Nat} {ad : Option Addr} {n cap : Nat} {l : List ByteArray} (h : w.ownsRow B 9 1 (.slice ad n cap) n (l.map .string)) : n = l.length ∧ ∃ ab, Rs w ad ab 0 l := by
  have hl := h.1
  rw [List.length_map, Nat.mul_one] at hl
  refine ⟨hl.symm, ?_⟩
  rcases own_form h with ⟨h1, hn⟩ | ⟨g, cap', h1, _⟩
  · exact ⟨0, fun h => absurd h (by omega), fun i hi => absurd hi (by omega)⟩
  · injection h1 with h1
    subst h1
    refine ⟨g, fun _ => rfl, fun i hi => ?_⟩
    have := h.cells (g := g) rfl i (.string l[i]) (by rw [List.getElem?_map, List.getElem?_eq_getElem hi]; rfl)
    rwa [Addr.add_lit] at this
/-- a slice of writes that is read -/
structure Rw (w : World) (ad : Option Addr) (ab ao : Nat) (l : List Wr) : Prop where
  at_ : 0 < l.length → ad = some ⟨ab, ao, none⟩
  sec : ∀ i (h : i < l.length), w.cell? ⟨ab, ao + i * 2, none⟩ = some (.int .i64 l[i].sec)
  data : ∀ i (h : i < l.length), w.cell? ⟨ab, ao + i * 2 + 1, none⟩ = some (.string l[i].data)
theorem Rw.lt {w : World} {ad : Option Addr} {ab ao : Nat} {l : List Wr} (h : Rw w ad ab ao l) (h0 : 0 < l.length) : ab < w.heap.size := World.block_lt_of_cell? _ _ (h.sec 0 h0)
theorem Rw.keep {w w' : World} {ad : Option Addr} {ab ao : Nat} {l : List Wr} (h : Rw w ad ab ao l) (hk : 0 < l.length → w'.heap[ab]? = w.heap[ab]?) : Rw w' ad ab ao l :=
  ⟨h.at_, fun i hi => (World.cell?_of_block (hk (by omega))).trans (h.sec i hi), fun i hi => (World.cell?_of_block (hk (by omega))).trans (h.data i hi)⟩
theorem Rw.below {w w' : World} {ad : Option Addr} {ab ao : Nat} {l : List Wr} (h : Rw w ad ab ao l) (hb : Below w.heap.size w w') : Rw w' ad ab ao l := h.keep fun h0 => hb.block _ (h.lt h0)
theorem Rw.mv {w w' : World} {F F' : Nat → Prop} {ad : Option Addr} {ab ao : Nat} {l : List Wr} (h : Rw w ad ab ao l) (hm : Mv F F' w w') (hn : 0 < l.length → ¬ F ab) : Rw w' ad ab ao l := h.keep fun h0 => hm.block _ (h.lt h0) (hn h0)
theorem Rw.own {w : World} {B : Nat} {ad : Option Addr} {n cap : Nat} {l : List Wr} (h : w.ownsRow B 80 2 (.slice ad n cap) n (wcs l)) : n = l.length ∧ ∃ ab, Rw w ad ab 0 l := by
  have hl := h.1
  rw [wcs_len] at hl
  have hn : n = l.length := by omega
  refine ⟨hn, ?_⟩
  rcases own_form h with ⟨h1, h0⟩ | ⟨g, cap', h1, _⟩
  · exact ⟨0, fun h => absurd h (by omega), fun i hi => absurd hi (by omega), fun i hi => absurd hi (by omega)⟩
  · injection h1 with h1
    subst h1
    refine ⟨g, fun _ => rfl, fun i hi => ?_, fun i hi => ?_⟩
    · have := h.cells (g := g) rfl (i * 2 + 0) (.int .i64 l[i].sec) (by rw [wcs_get l i 0 hi (by decide)]; rfl)
      rwa [Addr.add_lit] at this
    · have := h.cells (g := g) rfl (i * 2 + 1) (.string l[i].data) (by rw [wcs_get l i 1 hi (by decide)]; rfl)
      rwa [Addr.add_lit, ← Nat.add_assoc] at this
end Go.Proofs.Ytojghjgbnnkldaa.D
end

section
namespace Go.Proofs.Ytojghjgbnnkldaa.D
open Go.RowKit

theorem below_drewN (w : World) (n : Nat) : Below w.heap.size w (w.drewN n) := ⟨rfl, rfl, rfl, Nat.le_refl _, fun _ _ => rfl⟩

set_option maxHeartbeats 1000000 in
set_option maxRecDepth 8000 in
theorem same_true {w : World} {ad ad' : Option Addr} {ab ao ab' ao' cap cap' : Nat} {l : List ByteArray} (h : Rs w ad ab ao l) (h' : Rs w ad' ab' ao' l) (hl : l.length ≤ 8796093021952) :
    Calls Try.prog 16 #[.slice ad l.length cap, .slice ad' l.length cap'] w fun e w' => e = .returned (.bool true) ∧ ∃ n, w' = w.drewN n := by
  go_enter Try.func16, Try.ntmps16
  go_wp2
  go_loopw [5] (fun u wr => ∃ i n : Nat, u = .int .i64 (i : Int) ∧ i ≤ l.length ∧ wr = w.drewN n) (fun u _ => (l.length - (intOf u).toNat))
  case atStart => exact ⟨0, 0, rfl, Nat.zero_le _, rfl⟩
  case round =>
    obtain ⟨i, n, rfl, hi, rfl⟩ := hrel
    by_cases hil : i < l.length
    · have ea := h.at_ (by omega)
      have ea' := h'.at_ (by omega)
      have c0 := h.cell i hil
      have c1 := h'.cell i hil
      generalize l[i] = s at c0 c1
      subst ea; subst ea'
      have H := hide h
      have H' := hide h'
      clear h h'
      go_wp2
      go_quiet (fail)
      go_wp2
      exact ⟨⟨i + 1, _, by go_num, by omega, rfl⟩, by simp [intOf]; omega⟩
    · obtain rfl : i = l.length := by omega
      clear h h'
      go_wp2
      go_ret
      exact ⟨rfl, _, rfl⟩

/-- the test ahead of '!=' -/
theorem guardW (op : BinOp) (x y : Operand) (xs ys : Array Value) (w : World) : (eqGuard op 80 x y (.agg xs) (.agg ys)).run Try.prog w = .ok () w := run_eqGuard_agg w op _ x y xs ys (by kernel_rfl)
theorem eqW_self (d : Wr) (w : World) : (Op.equalIn 10000 80 (.agg #[.int .i64 d.sec, .string d.data]) (.agg #[.int .i64 d.sec, .string d.data])).run Try.prog w = .ok true w := by
  have u3 := Try.underlying3
  have a3 := Try.isAgg3
  have z3 := Try.sizeOf3
  have u9 := Try.underlying9
  have a9 := Try.isAgg9
  have z9 := Try.sizeOf9
  have hS : Try.prog.underlying 80 = some (.struct (Try.prog.fieldsOf 80)) := by kernel_rfl
  have hp : Try.prog.stoodInHeld 80 = false := by kernel_rfl
  rw [show (10000 : Nat) = 9999 + 1 from rfl, run_equalIn_agg w 9999 80 _ _ hS hp]
  simp only [Program.fieldsOf, Try.underlying80]
  go_simp
theorem neqW_self (d : Wr) (w : World) : (binOp .neq 80 (.agg #[.int .i64 d.sec, .string d.data]) (.agg #[.int .i64 d.sec, .string d.data])).run Try.prog w = .ok (.bool false) w := by
  rw [run_neq_struct, eqW_self]
  rfl

def all8 (l : List ByteArray) : Bool := l.all fun s => s.size == 128
theorem all8_A {l : List ByteArray} (h : all8 l = true) : A128 l := by
  intro s hs
  have := List.all_eq_true.1 h s hs
  simpa using this
theorem all8_of {l : List ByteArray} (h : A128 l) : all8 l = true := List.all_eq_true.2 fun s hs => by simpa using h s hs

end Go.Proofs.Ytojghjgbnnkldaa.D
end
