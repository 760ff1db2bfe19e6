import Derived.Test.YtjpcghkdedldiaaLsI
namespace Go.Proofs.Ytjpcghkdedldiaa
open Go.RowKit Go.Shelf

theorem grown_pre {w W w' : World} {row : Option Nat} (hb : Below w.heap.size w W) (hg : W.grownBy w' row) : w.grownBy w' row :=
  ⟨hg.os.trans hb.os, hg.tape.trans hb.tape, hg.output.trans hb.output, Nat.le_trans hb.size hg.size, fun k hk hne => (hg.block k (Nat.lt_of_lt_of_le hk hb.size) hne).trans (hb.block k hk)⟩
theorem grown_post {w W w' : World} {row : Option Nat} (hg : w.grownBy W row) (hb : Below W.heap.size W w') : w.grownBy w' row :=
  ⟨hb.os.trans hg.os, hb.tape.trans hg.tape, hb.output.trans hg.output, Nat.le_trans hg.size hb.size, fun k hk hne => (hb.block k (Nat.lt_of_lt_of_le hk hg.size)).trans (hg.block k hk hne)⟩
theorem grown_trans {w W w' : World} {row : Option Nat} (hg : w.grownBy W row) (hb : W.grownBy w' row) : w.grownBy w' row :=
  ⟨hb.os.trans hg.os, hb.tape.trans hg.tape, hb.output.trans hg.output, Nat.le_trans hg.size hb.size, fun k hk hne => (hb.block k (Nat.lt_of_lt_of_le hk hg.size) hne).trans (hg.block k hk hne)⟩
theorem grown_any {w w' : World} (hb : Below w.heap.size w w') (row : Option Nat) : w.grownBy w' row := ⟨hb.os, hb.tape, hb.output, hb.size, fun k hk _ => hb.block k hk⟩
theorem grown_drew {w w' : World} {row : Option Nat} (h : w.drew.grownBy w' row) : w.grownBy w' row := ⟨h.os, h.tape, h.output, h.size, h.block⟩
theorem Lm.drew {w : World} {m : Nat} {L : List Lz} (h : Lm w m L) : Lm w.drew m L := h

/-- New, at any number -/
theorem new_no {T : Int} (h : ¬ (1 ≤ T ∧ T ≤ 256)) (w : World) : Calls Try.prog 9 #[.int .i64 T] w fun e w' => e = .returned (.tuple #[.pointer none, .int .i64 120]) ∧ w' = w := by
  by_cases h1 : T < 1
  · have b1 : decide (T < 1) = true := by simpa using h1
    clear h1
    go_enter Try.func9, Try.ntmps9
    go_wp2
    go_ret2
    exact ⟨rfl, rfl⟩
  · have b1 : decide (T < 1) = false := by simpa using h1
    have b2 : decide (256 < T) = true := by simp; omega
    clear h1
    go_enter Try.func9, Try.ntmps9
    go_wp2
    go_ret2
    exact ⟨rfl, rfl⟩
theorem new_yes {T : Int} (h1 : 1 ≤ T) (h2 : T ≤ 256) (w : World) : Calls Try.prog 9 #[.int .i64 T] w fun e w' => e = .returned (.tuple #[.pointer (some ⟨w.heap.size + 1, 0, none⟩), .int .i64 0]) ∧ Tb w' (w.heap.size + 1) w.heap.size T [] ∧ Below w.heap.size w w' := by
  have b1 : decide (T < 1) = false := by simp; omega
  have b2 : decide (256 < T) = false := by simp; omega
  have hmm := @run_makeMap Try.prog
  clear h1 h2
  go_enter Try.func9, Try.ntmps9
  go_wp2
  go_ret2
  refine ⟨rfl, ⟨?_, (lm_new w).below (below_alloc _ _)⟩, (below_alloc w _).alloc (by simp) _⟩
  have := heap_alloc_new (w.alloc (.map #[] 0)) (.cells #[.int .i64 T, .map (some w.heap.size)] 65)
  rw [World.size_alloc] at this
  exact this

set_option maxHeartbeats 1000000 in
/-- Find -/
theorem find_any {w : World} {b m : Nat} {T : Int} {L : List Lz} (hT : Tb w b m T L) (g : Int) :
    Calls Try.prog 21 #[.pointer (some ⟨b, 0, none⟩), .int .i64 g] w fun e w' => e = .returned (.tuple #[(fnd g L).val, .bool (has g L)]) ∧ Below w.heap.size w w' := by
  have hlt := hT.lt
  have c1 := hT.c1
  have hlk := (hT.alloc (.cells #[.int .i64 0, .int .i64 0, .int .i64 0, .int .i64 0, .int .i64 0] 54)).map.look g
  clear hT
  generalize has g L = hb at *
  generalize fnd g L = x at *
  go_enter Try.func21, Try.ntmps21
  go_wp2
  exact bodyPost_ret (v := .tuple #[x.val, .bool hb]) (by simp [results, Try.results21, go_sem]) rfl ⟨rfl, (below_alloc w _).alloc (by simp) _⟩

set_option maxHeartbeats 1000000 in
/-- Renew of one that is not there -/
theorem renew_no {w : World} {b m : Nat} {T : Int} {L : List Lz} (hT : Tb w b m T L) {g : Int} (hg : has g L = false) :
    Calls Try.prog 20 #[.pointer (some ⟨b, 0, none⟩), .int .i64 g] w fun e w' => e = .returned (.int .i64 122) ∧ Below w.heap.size w w' := by
  have hlt := hT.lt
  have c1 := hT.c1
  have hlk := hT.map.look g
  rw [hg] at hlk
  clear hT
  generalize fnd g L = x at *
  go_enter Try.func20, Try.ntmps20
  go_wp2
  go_ret
  exact ⟨rfl, below_alloc w _⟩
set_option maxHeartbeats 1000000 in
theorem renew_yes {w : World} {b m : Nat} {T : Int} {L : List Lz} (hT : Tb w b m T L) {g : Int} (hg : has g L = true) :
    Calls Try.prog 20 #[.pointer (some ⟨b, 0, none⟩), .int .i64 g] w fun e w' => e = .returned (.int .i64 0) ∧ Tb w' b m T (put { fnd g L with left := T } L) ∧ w.grownBy w' (some m) := by
  have hlt := hT.lt
  have c0 := hT.c0
  have c1 := hT.c1
  have hlk := hT.map.look g
  rw [hg] at hlk
  have hbg := (fnd_mem hg).2
  have HT := hide hT
  clear hT
  generalize fnd g L = x at *
  subst hbg
  go_enter Try.func20, Try.ntmps20
  have hT1 := HT.out.alloc (.cells #[.int .i64 x.job, .int .i64 x.bdg, .int .i64 x.node, .int .i64 x.life, .int .i64 T] 54)
  obtain ⟨w1, hst, hL1, hg1⟩ := hT1.map.drew.store { x with left := T }
  have HL1 := hide hL1
  have HG1 := hide hg1
  have HT1 := hide hT1
  clear hL1 hg1 hT1
  go_wp2
  go_region
  go_wp2
  go_ret
  have hgg : (w.alloc (.cells #[.int .i64 x.job, .int .i64 x.bdg, .int .i64 x.node, .int .i64 x.life, .int .i64 T] 54)).grownBy w1 (some m) := grown_drew HG1.out
  exact ⟨rfl, HT1.out.turn HL1.out hgg, grown_pre (below_alloc w _) hgg⟩
set_option maxHeartbeats 1000000 in
/-- Drop of one that is not there -/
theorem drop_no {w : World} {b m : Nat} {T : Int} {L : List Lz} (hT : Tb w b m T L) {g : Int} (hg : has g L = false) :
    Calls Try.prog 25 #[.pointer (some ⟨b, 0, none⟩), .int .i64 g] w fun e w' => e = .returned (.int .i64 122) ∧ Below w.heap.size w w' := by
  have hlt := hT.lt
  have c1 := hT.c1
  have hlk := hT.map.look g
  rw [hg] at hlk
  clear hT
  generalize fnd g L = x at *
  go_enter Try.func25, Try.ntmps25
  go_wp2
  go_ret
  exact ⟨rfl, below_alloc w _⟩
set_option maxHeartbeats 1000000 in
theorem drop_yes {w : World} {b m : Nat} {T : Int} {L : List Lz} (hT : Tb w b m T L) {g : Int} (hg : has g L = true) :
    Calls Try.prog 25 #[.pointer (some ⟨b, 0, none⟩), .int .i64 g] w fun e w' => e = .returned (.int .i64 0) ∧ Tb w' b m T (del g L) ∧ w.grownBy w' (some m) := by
  have hlt := hT.lt
  have c1 := hT.c1
  have hlk := hT.map.look g
  rw [hg] at hlk
  have HT := hide hT
  clear hT
  generalize fnd g L = x at *
  have hT1 := HT.out.alloc x.obj
  obtain ⟨w1, hst, hL1, hg1⟩ := hT1.map.drop g 0
  have hst2 : ∀ ty, (Builtin.delete_ #[63, 3] ty #[.map (some m), .int .i64 g]).run Try.prog (w.alloc x.obj) = .ok (.tuple #[]) w1 := fun _ => hst
  have HL1 := hide hL1
  have HG1 := hide hg1
  have HT1 := hide hT1
  clear hL1 hg1 hT1 hst
  go_enter Try.func25, Try.ntmps25
  go_wp2
  go_ret
  exact ⟨rfl, HT1.out.turn HL1.out HG1.out, grown_pre (below_alloc w _) HG1.out⟩

/-- what Grant answers -/
def grE (L : List Lz) (j g : Int) : Int := if j < 1 ∨ 8 < j ∨ g < 1 ∨ 1099511627776 < g then 1 else if thr j g L = true then 121 else 0
def grL (T : Int) (L : List Lz) (j g n l : Int) : List Lz := if grE L j g = 0 then put ⟨j, g, n, l, T⟩ L else L

set_option maxRecDepth 100000 in
set_option maxHeartbeats 2000000 in
theorem grant_arg {w : World} {b : Nat} {j g n l : Int} (h : j < 1 ∨ 8 < j ∨ g < 1 ∨ 1099511627776 < g) :
    Calls Try.prog 18 #[.pointer (some ⟨b, 0, none⟩), .int .i64 j, .int .i64 g, .agg #[.int .i64 n, .int .i64 l]] w fun e w' => e = .returned (.int .i64 1) ∧ Below w.heap.size w w' := by
  have e1 : ∃ b1, decide (j < 1) = b1 := ⟨_, rfl⟩
  have e2 : ∃ b2, decide (8 < j) = b2 := ⟨_, rfl⟩
  have e3 : ∃ b3, decide (g < 1) = b3 := ⟨_, rfl⟩
  have e4 : ∃ b4, decide (1099511627776 < g) = b4 := ⟨_, rfl⟩
  obtain ⟨b1, h1⟩ := e1
  obtain ⟨b2, h2⟩ := e2
  obtain ⟨b3, h3⟩ := e3
  obtain ⟨b4, h4⟩ := e4
  have hor : (b1 || b2 || b3 || b4) = true := by
    rw [← h1, ← h2, ← h3, ← h4]
    simp only [Bool.or_eq_true, decide_eq_true_eq]
    omega
  clear h
  cases b1 <;> cases b2 <;> cases b3 <;> cases b4 <;> first
    | (exfalso; revert hor; decide)
    | (clear hor
       go_enter Try.func18, Try.ntmps18
       go_wp2
       go_ret
       exact ⟨rfl, below_alloc w _⟩)

set_option maxRecDepth 100000 in
set_option maxHeartbeats 2000000 in
theorem grant_in {w : World} {b m : Nat} {T : Int} {L : List Lz} (hT : Tb w b m T L) {j g n l : Int} (hj1 : 1 ≤ j) (hj2 : j ≤ 8) (hg1 : 1 ≤ g) (hg2 : g ≤ 1099511627776) (hlen : L.length ≤ 12) (hfull : thr j g L = false → L.length < 8) :
    Calls Try.prog 18 #[.pointer (some ⟨b, 0, none⟩), .int .i64 j, .int .i64 g, .agg #[.int .i64 n, .int .i64 l]] w fun e w' => e = .returned (.int .i64 (if thr j g L = true then 121 else 0)) ∧ Tb w' b m T (if thr j g L = true then L else put ⟨j, g, n, l, T⟩ L) ∧ w.grownBy w' (some m) := by
  have h1 : decide (j < 1) = false := by simp; omega
  have h2 : decide (8 < j) = false := by simp; omega
  have h3 : decide (g < 1) = false := by simp; omega
  have h4 : decide (1099511627776 < g) = false := by simp; omega
  have hlt := hT.lt
  have HT := hide (hT.alloc (.cells #[.int .i64 n, .int .i64 l] 36))
  have HTH := hide (there_any HT.out hlen j g)
  have HF := hide hfull
  clear hj1 hj2 hg1 hg2 hT hfull
  obtain ⟨q, hq⟩ : ∃ q, thr j g L = q := ⟨_, rfl⟩
  rw [hq] at HTH HF ⊢
  clear hq
  cases q
  · have hl8 : decide (8 ≤ L.length) = false := by have := HF.out rfl; simp; omega
    have hl9 : (L.length : Int) < 8 := by have := HF.out rfl; omega
    clear HF
    have HD0 : Hid ((w.alloc (.cells #[.int .i64 n, .int .i64 l] 36)).cell? ⟨w.heap.size, 0, none⟩ = some (.int .i64 n)) := by show _ = _; simp
    have HD1 : Hid ((w.alloc (.cells #[.int .i64 n, .int .i64 l] 36)).cell? ⟨w.heap.size, 1, none⟩ = some (.int .i64 l)) := by show _ = _; simp
    simp only [Bool.false_eq_true, if_false]
    go_enter Try.func18, Try.ntmps18
    go_wp2_with (go_at_call 31; refine HTH.out.mono ?_; rintro e w1 ⟨rfl, hb⟩; (have hT1 := HT.out.below hb); (have HT1 := hide hT1); (have c0 := hT1.c0); (have c1 := hT1.c1); (have hln := hT1.map.len); (have HB := hide hb); (have d0 := (hb.cell (p := ⟨w.heap.size, 0, none⟩) (by simp)).trans HD0.out); (have d1 := (hb.cell (p := ⟨w.heap.size, 1, none⟩) (by simp)).trans HD1.out); (obtain ⟨w2, hst, hL2, hg2⟩ := hT1.map.drew.store ⟨j, g, n, l, T⟩); (have HL2 := hide hL2); (have HG2 := hide hg2); clear hb hT1 hL2 hg2)
    go_region
    go_wp2
    go_ret
    exact ⟨rfl, HT1.out.turn HL2.out (grown_drew HG2.out), grown_pre (below_of (below_alloc w _) HB.out) (grown_drew HG2.out)⟩
  · simp only [if_true]
    clear HF
    go_enter Try.func18, Try.ntmps18
    go_wp2_with (go_at_call 31; refine HTH.out.mono ?_; rintro e w1 ⟨rfl, hb⟩; (have HB := hide hb); clear hb)
    go_ret
    exact ⟨rfl, HT.out.below HB.out, grown_any (below_of (below_alloc w _) HB.out) _⟩
end Go.Proofs.Ytjpcghkdedldiaa
