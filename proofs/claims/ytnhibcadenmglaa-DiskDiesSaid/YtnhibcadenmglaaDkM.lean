import Derived.Test.YtnhibcadenmglaaDkP
import Derived.Test.YtnhibcadenmglaaDkO
namespace Go.Proofs.Ytnhibcadenmglaa
open Go.RowKit

/-- DiskDies' disk, cut -/
def gone (l : List ByteArray) : DS := ⟨l, [], true, 1, 0⟩
theorem dies_arm {l : List ByteArray} : (fresh l).arm 1 0 = (0, ⟨l, [], false, 1, 0⟩) := by
  unfold DS.arm
  rw [if_neg (by simp [fresh]), if_neg (by decide)]
  rfl
theorem dies_cut {l : List ByteArray} (h : loadE l = 0) {x : ByteArray} (hx : x.size = 128) : (⟨l, [], false, 1, 0⟩ : DS).write 0 x = (2, gone l) := by
  obtain ⟨h8, h0, h1⟩ := loadE_ok h
  rw [DS.write_cut rfl (by show (0 : Int) ≤ 0 ∧ (0 : Int) < (l.length : Int); omega) hx rfl]
  show ((2 : Int), (⟨layS l 0 (x.extract 0 0), [], true, 1, 0⟩ : DS)) = _
  rw [layS_none _ _ (by rw [ext_size]; omega)]
  rfl
theorem gone_arm {l : List ByteArray} (n m : Int) : (gone l).arm n m = (2, gone l) := by unfold DS.arm; rw [if_pos (show (gone l).dead = true from rfl)]
theorem gone_read {l : List ByteArray} (n : Int) : (gone l).read n = (ByteArray.empty, 2) := by unfold DS.read; rw [if_pos (show (gone l).dead = true from rfl)]
theorem gone_revive {l : List ByteArray} : (gone l).revive = ⟨l, [], false, 0, 0⟩ := rfl

/-- a block that none turns -/
theorem dies_op {base : Nat} {w w' : World} {b : Nat} {F F' : Nat → Prop} {d : DS} {k : Nat} {o : Obj} (h : Dk base w b F d) (hk : (w.alloc o).heap[k]? = some o) (he : k = w.heap.size) (hm : Mv F F' (w.alloc o) w') : w'.heap[k]? = some o := by
  rw [hm.block k (by rw [World.size_alloc]; omega) (fun hf => absurd (h.ftlt k hf).2 (by omega))]
  exact hk

theorem dies_last {base : Nat} {w : World} {b : Nat} {F : Nat → Prop} {l : List ByteArray} (h : Dk base w b F (fresh l)) (hE : loadE l = 0) {x : ByteArray} (hx : x.size = 128) :
    Calls Try.prog 20 #[.pointer (some ⟨b, 0, none⟩), .int .i64 0, .string x] w fun e w' => e = .returned (.int .i64 0) ∧ Below base w w' := by
  obtain ⟨h8, h0, h1⟩ := loadE_ok hE
  refine (write_any h 0 x (by show (0 + 1) * 24 ≤ 140737488355328; decide)).mono ?_
  rintro e w1 ⟨rfl, F', hD, hM⟩
  refine ⟨?_, hM.below (by have := h.lt; have := (h.ftlt b h.has).1; omega) h.ftlow⟩
  rw [DS.write_all rfl (by show (0 : Int) ≤ 0 ∧ (0 : Int) < (l.length : Int); omega) hx (by show (0 : Int) ≠ 1; decide)]

set_option maxHeartbeats 4000000 in
set_option maxRecDepth 8000 in
theorem diskDies_walk {w : World} {ad ad2 ad3 : Option Addr} {ab ao cap ab2 ao2 cap2 ab3 ao3 cap3 : Nat} {l : List ByteArray} {R : List Wr} {Q : List OpV} {n m : Int} (h : Rs w ad ab ao l) (_ : Rw w ad2 ab2 ao2 R) (hl : l.length ≤ 8796093021952) (_ : R.length ≤ 5864062014634) (_ : -9223372036854775808 ≤ n ∧ n ≤ 9223372036854775807) (_ : -9223372036854775808 ≤ m ∧ m ≤ 9223372036854775807) (h3 : Ro w ad3 ab3 ao3 Q) (hQ : Q.length ≤ 5864062014634) :
    Calls Try.prog 8 #[.agg #[.slice ad l.length cap, .slice ad2 R.length cap2, .int .i64 n, .int .i64 m], .slice ad3 Q.length cap3] w fun e w' => e = .returned (.bool true) ∧ Below w.heap.size w w' := by
  obtain ⟨W0, hW0⟩ : ∃ W0, w.alloc (.cells #[.slice ad l.length cap, .slice ad2 R.length cap2, .int .i64 n, .int .i64 m] 42) = W0 := ⟨_, rfl⟩
  have hb0 : Below w.heap.size w W0 := by rw [← hW0]; exact (Below.refl _ w).alloc (Nat.le_refl _) _
  have hsz0 : W0.heap.size = w.heap.size + 1 := by rw [← hW0]; exact World.size_alloc _ _
  have hblk : W0.heap[w.heap.size]? = some (.cells #[.slice ad l.length cap, .slice ad2 R.length cap2, .int .i64 n, .int .i64 m] 42 (0, 0)) := by rw [← hW0]; exact heap_alloc_new w _
  have KC : Hid (∀ w1, Below W0.heap.size W0 w1 → w1.cell? ⟨w.heap.size, 0, none⟩ = some (.slice ad l.length cap)) := fun w1 hb => by
    have e := (hb.block _ (by omega)).trans hblk
    simp [World.cell?, e]
  have H0 := h.below hb0
  have H30 := h3.below hb0
  have HB0 := hide hb0
  have HSZ := hide hsz0
  by_cases hE : loadE l = 0
  · obtain ⟨h8, hp, hq⟩ := loadE_ok hE
    have HM := hide (made_yes (R := []) (cap := cap) (cap2 := 0) H0 (Rw.nil W0) hE (by decide))
    simp only [List.length_nil] at HM
    have hce := KC.out W0 (Below.refl _ _)
    have KS : Hid (∀ w1, Below W0.heap.size W0 w1 → w1.cell? ⟨ab, ao, none⟩ = some (.string l[0])) := fun w1 hb => (H0.below hb).cell 0 hp
    have hcut := dies_cut hE (h8.get hp)
    have hs8 := h8.get hp
    have ea := H0.at_ hp
    subst ea
    generalize l[0] = s0 at *
    have HC := hide hcut
    have HE0 := hide hE
    have HX8 := hide hs8
    have HH0 := hide H0
    have HH3 := hide H30
    clear h h3 hsz0 hblk hE hcut hs8 H0 H30
    go_enter Try.func8, Try.ntmps8
    go_wp2_with fail
    clear hW0
    refine HM.out.mono ?_
    rintro e w1 ⟨b, F, rfl, hD, hb1⟩
    have HA := hide (arm_any hD 1 0 (by decide))
    have hfr : (fresh l).wrs [] = fresh l := rfl
    rw [hfr, dies_arm] at HA
    have HD := hide hD
    have HB1 := hide hb1
    clear hD hb1 HM hce hfr
    go_wp2_with fail
    refine HA.out.mono ?_
    rintro e w2 ⟨rfl, hD2, hM2⟩
    have hb2 := HB1.out.trans (hM2.below HB1.out.size HD.out.ftlow)
    have hW := write_any hD2 0 s0 (by show (0 + 1) * 24 ≤ 140737488355328; decide)
    rw [HC.out] at hW
    have HW := hide hW
    have HD2 := hide hD2
    have HB2 := hide hb2
    have hce := KC.out w2 hb2
    have hc0 := KS.out w2 hb2
    clear hD2 hb2 hM2 hW HA HD HB1
    go_wp2_with fail
    refine HW.out.mono ?_
    rintro e w3 ⟨rfl, F3, hD3, hM3⟩
    have HD3 := hide hD3
    have HB3 := hide (HB2.out.trans (hM3.below HB2.out.size HD2.out.ftlow))
    clear hD3 hM3 HW hce hc0
    go_wp2_with fail
    go_loopw [8] (fun u wr => ∃ (i : Nat) (F' : Nat → Prop), u = .int .i64 (i : Int) ∧ i ≤ Q.length ∧ Hid (Dk W0.heap.size wr b F' (gone l)) ∧ Hid (Below W0.heap.size W0 wr)) (fun u _ => (Q.length - (intOf u).toNat))
    case atStart => exact ⟨0, F3, rfl, Nat.zero_le _, HD3, HB3⟩
    case round =>
      obtain ⟨i, F', rfl, hi, HD, HB⟩ := hrel
      by_cases hil : i < Q.length
      · have O := HH3.out.below HB.out
        have ea := O.at_ (by omega)
        have g0 := O.on i hil
        have g1 := O.k i hil
        have g2 := O.a i hil
        have g3 := O.b i hil
        have g4 := O.s i hil
        have hba := O.ba i hil
        subst ea
        generalize Q[i] = q at *
        obtain ⟨x0, x1, x2, x3, x4⟩ := q
        simp only at g0 g1 g2 g3 g4 hba
        clear O
        obtain ⟨o, ho⟩ : ∃ o, Obj.cells #[.int .i64 x0, .int .i64 x1, .int .i64 x2, .int .i64 x3, .string x4] 58 (0, 0) = o := ⟨_, rfl⟩
        have HDo := hide (HD.out.alloc o)
        have HBo := hide (HB.out.alloc (Nat.le_trans HB.out.size (Nat.le_refl _)) o)
        have CO : Hid (∀ w1 : World, w1.heap[wr.heap.size]? = some o → w1.cell? ⟨wr.heap.size, 2, none⟩ = some (.int .i64 x2) ∧ w1.cell? ⟨wr.heap.size, 3, none⟩ = some (.int .i64 x3) ∧ w1.cell? ⟨wr.heap.size, 4, none⟩ = some (.string x4)) := fun w1 e => by
          rw [← ho] at e
          exact ⟨by simp [World.cell?, e], by simp [World.cell?, e], by simp [World.cell?, e]⟩
        have hno := heap_alloc_new wr o
        have HNO := hide hno
        have HR := hide (read_any HDo.out x2)
        rw [gone_read] at HR
        have hW := write_any HDo.out x2 x4 (by show (0 + 1) * 24 ≤ 140737488355328; decide)
        rw [DS.write_dead (show (gone l).dead = true from rfl)] at hW
        have HW := hide hW
        have HLT : Hid (∀ k, F' k → k < wr.heap.size) := fun k hk => (HD.out.ftlt k hk).2
        have HO := hide ho
        clear hW hno ho
        go_wp2_with fail
        rw [HO.out]
        refine HR.out.mono ?_
        rintro e w4 ⟨rfl, hw4⟩
        have hw4' := hw4.symm
        subst hw4'
        clear hw4
        obtain ⟨q2, q3, q4⟩ := CO.out _ HNO.out
        have hos : (wr.alloc o).heap.size = wr.heap.size + 1 := World.size_alloc _ _
        have HOS := hide hos
        clear hos HR
        generalize wr.alloc o = wo at *
        go_wp2_with fail
        refine HW.out.mono ?_
        rintro e w5 ⟨rfl, F5, hD5, hM5⟩
        have e5 : w5.heap[wr.heap.size]? = some o := (hM5.block _ (by have := HOS.out; omega) (fun hf => absurd (HLT.out _ hf) (by omega))).trans HNO.out
        have HE5 := hide e5
        clear q2 q3 q4
        obtain ⟨q2, q3, q4⟩ := CO.out _ e5
        have HD5 : Hid (Dk W0.heap.size w5 b F5 (gone l)) := hD5
        have HB5 := hide (HBo.out.trans (hM5.below HBo.out.size HDo.out.ftlow))
        have hA := arm_any HD5.out x2 x3 hba.2
        rw [gone_arm] at hA
        have HA := hide hA
        clear hD5 hM5 HW e5 hA
        go_wp2_with fail
        refine HA.out.mono ?_
        rintro e w6 ⟨rfl, hD6, hM6⟩
        have HD6 : Hid (Dk W0.heap.size w6 b F5 (gone l)) := hD6
        have HB6 := hide (HB5.out.trans (hM6.below HB5.out.size HD5.out.ftlow))
        have HDD := hide (dead_any HD6.out)
        rw [show (gone l).dead = true from rfl] at HDD
        clear hD6 hM6 HA q2 q3 q4
        go_wp2_with (go_at_call 23; refine HDD.out.mono ?_; rintro e w7 ⟨rfl, rfl⟩)
        exact ⟨⟨i + 1, F5, by go_num, by omega, HD6, HB6⟩, by simp [intOf]; omega⟩
      · obtain rfl : i = Q.length := by omega
        have hce := KC.out wr HB.out
        have HS := hide (sectors_rs HD.out.drew)
        go_wp2_with fail
        first | (go_region_held3 (fun w' => w'.cell? ⟨w.heap.size, 0, none⟩ = some (.slice (some ⟨ab, ao, none⟩) l.length cap)) (go_keep) (first
          | (go_at_call 22; refine HS.out.mono ?_; rintro e w4 ⟨ad4, cap4, ab4, rfl, hr4, _, hb4⟩; have HR4 : Hid (Rs w4 ad4 ab4 0 l) := hr4; have HB4 := hide (HB.out.trans (below_up (below_drew hb4) HB.out.size)); have HD4 := hide (HD.out.drew.below hb4); have hce4 := KC.out w4 HB4.out; clear hr4 hb4)
          | (go_at_call 15; refine (same_b (l := l) HR4.out (HH0.out.below HB4.out) hl).mono ?_; rintro e w5 ⟨rfl, hb5⟩; have HB5 := hide (HB4.out.trans (below_up hb5 HB4.out.size)); have HD5 := hide (HD4.out.below hb5); have hce5 := KC.out w5 HB5.out; clear hb5)
          | (go_at_call 21; refine (raw_rw HD5.out (by show 0 * 24 ≤ 140737488355328; decide)).mono ?_; rintro e w6 ⟨ad6, cap6, ab6, rfl, _, _, hb6⟩; have HB6 := hide (HB5.out.trans (below_up hb6 HB5.out.size)); have HD6 := hide (HD5.out.below hb6); have hce6 := KC.out w6 HB6.out; clear hb6))) | fail
        have HV := hide (revive_any HD6.out)
        rw [show (gone l).revive = fresh l from rfl] at HV
        clear HS HB HD HB4 HD4 HR4 HB5 HD5 hce hce4 hce5 hce6
        go_wp2_with fail
        refine HV.out.mono ?_
        rintro e w7 ⟨rfl, hD7, hM7⟩
        have HD7 := hide hD7
        have HB7 := hide (HB6.out.trans (hM7.below HB6.out.size HD6.out.ftlow))
        clear hD7 hM7 HV HB6 HD6
        have hce := KC.out w7 HB7.out
        have hc0 := KS.out w7 HB7.out
        have HDD := hide (dead_any HD7.out.drew)
        rw [show (fresh l).dead = false from rfl] at HDD
        have HS := hide (sectors_rs HD7.out.drew)
        go_wp2_with fail
        first | (go_region_held3 (fun w' => w'.cell? ⟨w.heap.size, 0, none⟩ = some (.slice (some ⟨ab, ao, none⟩) l.length cap) ∧ w'.cell? ⟨ab, ao, none⟩ = some (.string s0)) (go_keep) (first
          | (go_at_call 23; refine HDD.out.mono ?_; rintro e w8 ⟨rfl, rfl⟩)
          | (go_at_call 22; refine HS.out.mono ?_; rintro e w4 ⟨ad4, cap4, ab4, rfl, hr4, _, hb4⟩; have HR4 : Hid (Rs w4 ad4 ab4 0 l) := hr4; have HB4 := hide (HB7.out.trans (below_up (below_drew hb4) HB7.out.size)); have HD4 := hide (HD7.out.drew.below hb4); have hce4 := KC.out w4 HB4.out; have hcs4 := KS.out w4 HB4.out; clear hr4 hb4)
          | (go_at_call 15; refine (same_b (l := l) HR4.out (HH0.out.below HB4.out) hl).mono ?_; rintro e w5 ⟨rfl, hb5⟩; have HB5 := hide (HB4.out.trans (below_up hb5 HB4.out.size)); have HD5 := hide (HD4.out.below hb5); have hce5 := KC.out w5 HB5.out; have hcs5 := KS.out w5 HB5.out; clear hb5)
          | (go_at_call 20; refine (dies_last HD5.out HE0.out HX8.out).mono ?_; rintro e w6 ⟨rfl, hb6⟩; have HB6 := hide (HB5.out.trans hb6); have hce6 := KC.out w6 HB6.out; have hcs6 := KS.out w6 HB6.out; clear hb6)
          | (go_at_call 12; refine (fixed_true w6).mono ?_; rintro e w9 ⟨rfl, hb9⟩; have HB9 := hide (HB6.out.trans (below_up hb9 HB6.out.size)); have hce9 := KC.out w9 HB9.out; have hcs9 := KS.out w9 HB9.out; clear hb9))) | fail
        go_wp2
        go_ret
        exact ⟨rfl, HB0.out.trans (below_up HB9.out (by have := HSZ.out; omega))⟩
  · have HM := hide (made_no (cap := cap) (v := .slice none 0 0) H0 hE hl)
    have HN := hide (rload_no (cap := cap) H0 hE hl)
    have HFX := hide (fixed_true W0)
    have c0 := KC.out W0 (Below.refl _ _)
    generalize loadE l = E at *
    have h10 : (E != 0) = true := by simpa using hE
    clear h h3 hsz0 hblk
    go_enter Try.func8, Try.ntmps8
    go_wp2_with (first
      | (go_at_call 24; clear hW0; refine HM.out.mono ?_; rintro e w2 ⟨rfl, rfl⟩)
      | (go_at_call 14; refine HN.out.mono ?_; rintro e w2 ⟨rfl, rfl⟩)
      | (go_at_call 12; refine HFX.out.mono ?_; rintro e w3 ⟨rfl, hb3⟩; have HB3 := hide hb3; clear hb3))
    go_ret
    exact ⟨rfl, HB0.out.trans (below_up HB3.out (by have := HSZ.out; omega))⟩
end Go.Proofs.Ytnhibcadenmglaa
