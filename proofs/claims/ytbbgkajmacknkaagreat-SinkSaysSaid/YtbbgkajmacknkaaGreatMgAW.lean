import Derived.Test.YtbbgkajmacknkaaGreatMgAU
import Derived.ProofKit
import Derived.OpenShut
import Derived.ShutString
import Derived.SizedLaws
import Derived.Carry
import Derived.Deep.SlicePairs
import Derived.Deep.Strs
import Derived.Lib.SmallJoins
import Derived.Test.YtbbgkajmacknkaaGreatMgAV

section
namespace Go.Proofs.YtbbgkajmacknkaaGreat.K
open Go.RowKit Go.MapKept Go.Shelf
open Wr (Ms)
set_option maxRecDepth 20000

theorem Gp.low {w w' : World} {b B : Nat} {s : St} {T : List Ev} {F : Nat → Prop} (h : Gp F b s T w w') (hl : ∀ k, F k → B ≤ k) (hB : B ≤ w.heap.size) : ∃ F', Sk w' b s T F' ∧ (∀ k, F' k → B ≤ k) ∧ Below B w w' := by
  obtain ⟨F', h1, h2, h3⟩ := h
  exact ⟨F', h1, fun k hk => (h3 k hk).elim (hl k) (fun h => by omega), ⟨h2.os, h2.tape, h2.output, h2.size, fun k hk => h2.block k (by omega) (fun hf => by have := hl k hf; omega)⟩⟩
def sA : St := fun j => if j = 1 then (5, []) else (0, [])
def sB : St := fun j => if j = 1 then (5, [⟨#[97]⟩]) else (0, [])
theorem pe_1 : pe st0 1 5 0 ⟨#[]⟩ = 0 := by decide
theorem adm_1 : adm st0 1 5 0 ⟨#[]⟩ = true := by decide
theorem ans_1 : ans st0 1 5 0 ⟨#[]⟩ = 1 := by decide
theorem news_1 : news st0 1 5 0 ⟨#[]⟩ = [⟨1, 5, 0, ⟨#[]⟩⟩] := by unfold news; rw [adm_1]; rfl
theorem nxt_1 : nxt st0 1 5 0 ⟨#[]⟩ = sA := by
  unfold nxt
  rw [adm_1, if_pos rfl]
  funext j
  unfold st0 sA
  by_cases e : j = 1
  · simp [e]
  · simp [e]
theorem put_1 {w : World} {b B : Nat} {T : List Ev} {F : Nat → Prop} (h : Sk w b st0 T F) (hT : T.length ≤ 1600000000000) (hl : ∀ k, F k → B ≤ k) (hB : B ≤ w.heap.size) :
    Calls Tryz.prog 6 #[.pointer (some ⟨b, 0, none⟩), .int .i64 1, .int .i64 5, .int .i64 0, .string ⟨#[]⟩] w fun e w' => e = .returned (.tuple #[.int .i64 1, .bool true, .int .i64 0]) ∧ ∃ F', Sk w' b sA (T ++ [⟨1, 5, 0, ⟨#[]⟩⟩]) F' ∧ (∀ k, F' k → B ≤ k) ∧ Below B w w' := by
  have h1 := h.put hT 1 5 0 ⟨#[]⟩
  rw [pe_1, adm_1, ans_1, news_1, nxt_1] at h1
  exact h1.mono fun e w' h2 => ⟨h2.1, h2.2.low hl hB⟩
theorem pe_2 : pe sA 1 5 1 ⟨#[97]⟩ = 0 := by decide
theorem adm_2 : adm sA 1 5 1 ⟨#[97]⟩ = true := by decide
theorem ans_2 : ans sA 1 5 1 ⟨#[97]⟩ = 2 := by decide
theorem news_2 : news sA 1 5 1 ⟨#[97]⟩ = [⟨1, 5, 1, ⟨#[97]⟩⟩] := by unfold news; rw [adm_2]; rfl
theorem nxt_2 : nxt sA 1 5 1 ⟨#[97]⟩ = sB := by
  unfold nxt
  rw [adm_2, if_pos rfl]
  funext j
  unfold sA sB
  by_cases e : j = 1
  · simp [e]
  · simp [e]
theorem put_2 {w : World} {b B : Nat} {T : List Ev} {F : Nat → Prop} (h : Sk w b sA T F) (hT : T.length ≤ 1600000000000) (hl : ∀ k, F k → B ≤ k) (hB : B ≤ w.heap.size) :
    Calls Tryz.prog 6 #[.pointer (some ⟨b, 0, none⟩), .int .i64 1, .int .i64 5, .int .i64 1, .string ⟨#[97]⟩] w fun e w' => e = .returned (.tuple #[.int .i64 2, .bool true, .int .i64 0]) ∧ ∃ F', Sk w' b sB (T ++ [⟨1, 5, 1, ⟨#[97]⟩⟩]) F' ∧ (∀ k, F' k → B ≤ k) ∧ Below B w w' := by
  have h1 := h.put hT 1 5 1 ⟨#[97]⟩
  rw [pe_2, adm_2, ans_2, news_2, nxt_2] at h1
  exact h1.mono fun e w' h2 => ⟨h2.1, h2.2.low hl hB⟩
theorem pe_3 : pe sB 1 4 0 ⟨#[]⟩ = 161 := by decide
theorem adm_3 : adm sB 1 4 0 ⟨#[]⟩ = false := by decide
theorem ans_3 : ans sB 1 4 0 ⟨#[]⟩ = 0 := by decide
theorem news_3 : news sB 1 4 0 ⟨#[]⟩ = [] := by unfold news; rw [adm_3]; rfl
theorem nxt_3 : nxt sB 1 4 0 ⟨#[]⟩ = sB := by unfold nxt; rw [adm_3]; rfl
theorem put_3 {w : World} {b B : Nat} {T : List Ev} {F : Nat → Prop} (h : Sk w b sB T F) (hT : T.length ≤ 1600000000000) (hl : ∀ k, F k → B ≤ k) (hB : B ≤ w.heap.size) :
    Calls Tryz.prog 6 #[.pointer (some ⟨b, 0, none⟩), .int .i64 1, .int .i64 4, .int .i64 0, .string ⟨#[]⟩] w fun e w' => e = .returned (.tuple #[.int .i64 0, .bool false, .int .i64 161]) ∧ ∃ F', Sk w' b sB (T ++ []) F' ∧ (∀ k, F' k → B ≤ k) ∧ Below B w w' := by
  have h1 := h.put hT 1 4 0 ⟨#[]⟩
  rw [pe_3, adm_3, ans_3, news_3, nxt_3] at h1
  exact h1.mono fun e w' h2 => ⟨h2.1, h2.2.low hl hB⟩
theorem pe_4 : pe sB 0 5 0 ⟨#[]⟩ = 160 := by decide
theorem adm_4 : adm sB 0 5 0 ⟨#[]⟩ = false := by decide
theorem ans_4 : ans sB 0 5 0 ⟨#[]⟩ = 0 := by decide
theorem news_4 : news sB 0 5 0 ⟨#[]⟩ = [] := by unfold news; rw [adm_4]; rfl
theorem nxt_4 : nxt sB 0 5 0 ⟨#[]⟩ = sB := by unfold nxt; rw [adm_4]; rfl
theorem put_4 {w : World} {b B : Nat} {T : List Ev} {F : Nat → Prop} (h : Sk w b sB T F) (hT : T.length ≤ 1600000000000) (hl : ∀ k, F k → B ≤ k) (hB : B ≤ w.heap.size) :
    Calls Tryz.prog 6 #[.pointer (some ⟨b, 0, none⟩), .int .i64 0, .int .i64 5, .int .i64 0, .string ⟨#[]⟩] w fun e w' => e = .returned (.tuple #[.int .i64 0, .bool false, .int .i64 160]) ∧ ∃ F', Sk w' b sB (T ++ []) F' ∧ (∀ k, F' k → B ≤ k) ∧ Below B w w' := by
  have h1 := h.put hT 0 5 0 ⟨#[]⟩
  rw [pe_4, adm_4, ans_4, news_4, nxt_4] at h1
  exact h1.mono fun e w' h2 => ⟨h2.1, h2.2.low hl hB⟩
theorem pe_5 : pe sB 1 5 3 ⟨#[]⟩ = 162 := by decide
theorem adm_5 : adm sB 1 5 3 ⟨#[]⟩ = false := by decide
theorem ans_5 : ans sB 1 5 3 ⟨#[]⟩ = 0 := by decide
theorem news_5 : news sB 1 5 3 ⟨#[]⟩ = [] := by unfold news; rw [adm_5]; rfl
theorem nxt_5 : nxt sB 1 5 3 ⟨#[]⟩ = sB := by unfold nxt; rw [adm_5]; rfl
theorem put_5 {w : World} {b B : Nat} {T : List Ev} {F : Nat → Prop} (h : Sk w b sB T F) (hT : T.length ≤ 1600000000000) (hl : ∀ k, F k → B ≤ k) (hB : B ≤ w.heap.size) :
    Calls Tryz.prog 6 #[.pointer (some ⟨b, 0, none⟩), .int .i64 1, .int .i64 5, .int .i64 3, .string ⟨#[]⟩] w fun e w' => e = .returned (.tuple #[.int .i64 0, .bool false, .int .i64 162]) ∧ ∃ F', Sk w' b sB (T ++ []) F' ∧ (∀ k, F' k → B ≤ k) ∧ Below B w w' := by
  have h1 := h.put hT 1 5 3 ⟨#[]⟩
  rw [pe_5, adm_5, ans_5, news_5, nxt_5] at h1
  exact h1.mono fun e w' h2 => ⟨h2.1, h2.2.low hl hB⟩
theorem pe_6 : pe sB 1 5 0 ⟨#[120]⟩ = 163 := by decide
theorem adm_6 : adm sB 1 5 0 ⟨#[120]⟩ = false := by decide
theorem ans_6 : ans sB 1 5 0 ⟨#[120]⟩ = 0 := by decide
theorem news_6 : news sB 1 5 0 ⟨#[120]⟩ = [] := by unfold news; rw [adm_6]; rfl
theorem nxt_6 : nxt sB 1 5 0 ⟨#[120]⟩ = sB := by unfold nxt; rw [adm_6]; rfl
theorem put_6 {w : World} {b B : Nat} {T : List Ev} {F : Nat → Prop} (h : Sk w b sB T F) (hT : T.length ≤ 1600000000000) (hl : ∀ k, F k → B ≤ k) (hB : B ≤ w.heap.size) :
    Calls Tryz.prog 6 #[.pointer (some ⟨b, 0, none⟩), .int .i64 1, .int .i64 5, .int .i64 0, .string ⟨#[120]⟩] w fun e w' => e = .returned (.tuple #[.int .i64 0, .bool false, .int .i64 163]) ∧ ∃ F', Sk w' b sB (T ++ []) F' ∧ (∀ k, F' k → B ≤ k) ∧ Below B w w' := by
  have h1 := h.put hT 1 5 0 ⟨#[120]⟩
  rw [pe_6, adm_6, ans_6, news_6, nxt_6] at h1
  exact h1.mono fun e w' h2 => ⟨h2.1, h2.2.low hl hB⟩
theorem one_of {Y : List Az} (h : Ls sB Y) : ∃ ad cap, Y = [⟨1, 5, ad, cap, [⟨#[97]⟩]⟩] := by
  have hj : ∀ y ∈ Y, y.job = 1 ∧ y.bdg = 5 ∧ y.pcs = [⟨#[97]⟩] := fun y hy => by
    have h1 := h.at_ y hy
    have h2 := (h.ok y hy).2.2.1
    unfold sB at h1
    by_cases e : y.job = 1
    · rw [if_pos e] at h1
      injection h1 with h3 h4
      exact ⟨e, h3.symm, h4.symm⟩
    · rw [if_neg e] at h1
      injection h1 with h3 h4
      omega
  obtain ⟨y, hy, e⟩ := h.all 1 (by decide)
  match Y, hj, h.rise, hy with
  | [x], hj, _, _ =>
    obtain ⟨h1, h2, h3⟩ := hj x (.head _)
    obtain ⟨xj, xb, ad, cap, ps⟩ := x
    simp only at h1 h2 h3
    subst h1; subst h2; subst h3
    exact ⟨ad, cap, rfl⟩
  | x :: z :: l, hj, hr, _ =>
    have h1 := (List.pairwise_cons.1 hr).1 z (.head _)
    have h2 := (hj x (.head _)).1
    have h3 := (hj z (.tail _ (.head _))).1
    omega
def mPut : Ms := ⟨6, 0, 0, 1, 4, 0, 0, 0, 0, ⟨#[]⟩, ⟨#[]⟩⟩
theorem mput_ok : Wr.check mPut = 0 := by decide
theorem mput_dec : Wr.decode limP ⟨#[6, 1, 4, 0, 0]⟩ = (mPut, 0) := by
  refine Wr.decode_there lim_p (by decide) mput_ok (by decide) ?_
  show [6, 1, 4, 0, 0] = Pk.enc 6 ++ (Pk.enc 1 ++ (Pk.enc 4 ++ (Pk.enc 0 ++ ((Pk.enc 0 ++ []) ++ []))))
  rw [Pk.enc_lt (n := 6) (by decide), Pk.enc_lt (n := 1) (by decide), Pk.enc_lt (n := 4) (by decide), Pk.enc_lt (n := 0) (by decide)]; rfl
theorem mput_rep : encB (rep sB mPut) = ⟨#[16, 1, 4]⟩ := by
  have h1 : rep sB mPut = ⟨16, 0, 0, 1, 4, 0, 0, 0, 0, ⟨#[]⟩, ⟨#[]⟩⟩ := if_pos pe_3
  rw [h1]
  unfold encB
  rw [if_pos (by decide)]
  have : Wr.bytes ⟨16, 0, 0, 1, 4, 0, 0, 0, 0, ⟨#[]⟩, ⟨#[]⟩⟩ = [16, 1, 4] := by
    show Pk.enc 16 ++ (Pk.enc 1 ++ (Pk.enc 4 ++ [])) = _
    rw [Pk.enc_lt (n := 16) (by decide), Pk.enc_lt (n := 1) (by decide), Pk.enc_lt (n := 4) (by decide)]; rfl
  rw [this]
theorem hear_1 {w : World} {b B : Nat} {T : List Ev} {F : Nat → Prop} (h : Sk w b sB T F) (hT : T.length ≤ 1600000000000) (hl : ∀ k, F k → B ≤ k) (hB : B ≤ w.heap.size) :
    Calls Tryz.prog 9 #[.pointer (some ⟨b, 0, none⟩), .agg #[.int .i64 2, .int .i64 1], .string ⟨#[6, 1, 4, 0, 0]⟩] w fun e w' => ∃ g, e = .returned (.slice (some ⟨g, 0, none⟩) 1 1) ∧ w'.heap[g]? = some (.cells #[.int .i64 0, .int .i64 1, .int .i64 0, .int .i64 2, .int .i64 1, .string ⟨#[16, 1, 4]⟩] 48 (0, 0)) ∧ Mv F w w' ∧ ∃ F', Sk w' b sB T F' ∧ (∀ k, F' k → B ≤ k) ∧ Below B w w' := by
  have hp : isPut ⟨#[6, 1, 4, 0, 0]⟩ = true := by unfold isPut; rw [mput_dec]; rfl
  have hmd : hm ⟨#[6, 1, 4, 0, 0]⟩ = mPut := by unfold hm; rw [mput_dec]
  have h1 := h.hear hT 2 1 ⟨#[6, 1, 4, 0, 0]⟩ (by decide)
  refine h1.mono fun e w' h2 => ?_
  obtain ⟨hg, h3⟩ := h2
  have e1 : hst sB ⟨#[6, 1, 4, 0, 0]⟩ = sB := by unfold hst; rw [hp, if_pos rfl, hmd]; exact nxt_3
  have e2 : hnw sB ⟨#[6, 1, 4, 0, 0]⟩ = [] := by unfold hnw; rw [hp, if_pos rfl, hmd]; exact news_3
  rw [e1, e2, List.append_nil] at hg
  rcases h3 with ⟨h3, _⟩ | ⟨_, g, he, hgs, hgb, hM⟩
  · rw [hp] at h3; cases h3
  · rw [hmd, mput_rep] at hgb
    exact ⟨g, he, hgb, hM, hg.low hl hB⟩
set_option maxHeartbeats 4000000 in
theorem awake_any (w : World) : Calls Tryz.prog 5 #[] w fun e w' => e = .returned (.bool true) ∧ Below w.heap.size w w' := by
  go_enter Tryz.func5, Tryz.ntmps5
  go_wp2_with fail
  refine (new_st w).mono ?_
  rintro e w0 ⟨b, F0, rfl, hS0, hB0, hL0⟩
  have HS0 := hide hS0
  have HB0 := hide hB0
  have HL0 := hide hL0
  clear hS0 hB0 hL0
  have hptr : ∀ w1 : World, (binOp .eql 30 (.pointer (some ⟨b, 0, none⟩)) (.pointer none)).run Tryz.prog w1 = .ok (.bool false) w1 := fun _ => by kernel_rfl
  go_wp2_with fail
  refine (put_1 HS0.out (by decide) HL0.out HB0.out.size).mono ?_
  rintro e w1 ⟨rfl, F1, hS1, hL1, hB1⟩
  have HS1 := hide hS1
  have HB1 := hide (HB0.out.trans hB1)
  have HL1 := hide hL1
  clear hS1 hB1 hL1
  go_wp2_with fail
  refine (put_2 HS1.out (by decide) HL1.out HB1.out.size).mono ?_
  rintro e w2 ⟨rfl, F2, hS2, hL2, hB2⟩
  have HS2 := hide hS2
  have HB2 := hide (HB1.out.trans hB2)
  have HL2 := hide hL2
  clear hS2 hB2 hL2
  go_wp2_with fail
  refine (put_3 HS2.out (by decide) HL2.out HB2.out.size).mono ?_
  rintro e w3 ⟨rfl, F3, hS3, hL3, hB3⟩
  have HS3 := hide hS3
  have HB3 := hide (HB2.out.trans hB3)
  have HL3 := hide hL3
  clear hS3 hB3 hL3
  go_wp2_with fail
  refine (put_4 HS3.out (by decide) HL3.out HB3.out.size).mono ?_
  rintro e w4 ⟨rfl, F4, hS4, hL4, hB4⟩
  have HS4 := hide hS4
  have HB4 := hide (HB3.out.trans hB4)
  have HL4 := hide hL4
  clear hS4 hB4 hL4
  go_wp2_with fail
  refine (put_5 HS4.out (by decide) HL4.out HB4.out.size).mono ?_
  rintro e w5 ⟨rfl, F5, hS5, hL5, hB5⟩
  have HS5 := hide hS5
  have HB5 := hide (HB4.out.trans hB5)
  have HL5 := hide hL5
  clear hS5 hB5 hL5
  go_wp2_with fail
  refine (put_6 HS5.out (by decide) HL5.out HB5.out.size).mono ?_
  rintro e w6 ⟨rfl, F6, hS6, hL6, hB6⟩
  have HS6 := hide hS6
  have HB6 := hide (HB5.out.trans hB6)
  have HL6 := hide hL6
  clear hS6 hB6 hL6
  go_wp2_with fail
  refine HS6.out.arts.mono ?_
  rintro e w7 ⟨ad, g, cap, Y, rfl, hR, hLs, hP, hg, hB⟩
  obtain ⟨yad, ycap, rfl⟩ := one_of hLs
  have hsz6 := HB6.out.size
  have hgs := hg (by simp)
  have had := hR.at_ (by simp)
  subst had
  obtain ⟨c0, c1, c2⟩ := hR.three0 (i := 0) (by simp)
  have hrow := hP _ (.head _)
  simp only [List.length_singleton] at hrow
  rcases own_form hrow with ⟨_, h0⟩ | ⟨g2, cap2, hv, hg2⟩
  · cases h0
  injection hv with hv1 _ hv2
  subst hv1; subst hv2
  have hg2s : w6.heap.size ≤ g2 := (hrow.lt g2 rfl).1
  have d0 : w7.cell? ⟨g2, 0, none⟩ = some (.string ⟨#[97]⟩) := by
    have := hrow.cells (g := g2) rfl 0 _ rfl
    rw [Addr.add_lit] at this
    exact this
  have HS7 := hide (HS6.out.below hB)
  have HB7 := hide (HB6.out.trans (hB.mono hsz6))
  have HLT := hide HS6.out.lt
  have hgl : g < w7.heap.size := World.block_lt_of_cell? _ _ c0
  simp only [List.getElem_cons_zero, Nat.zero_mul, Nat.zero_add] at c0 c1 c2
  have HC0 := hide c0
  have HC1 := hide c1
  have HC2 := hide c2
  have HD0 := hide d0
  clear hR hLs hP hg hB hrow c0 c1 c2 d0
  go_wp2_with fail
  refine (hear_1 HS7.out (by decide) HL6.out HB7.out.size).mono ?_
  rintro e w8 ⟨g3, rfl, hg3, hM, F8, hS8, hL8, hB8⟩
  have k0 : w8.cell? ⟨g, 0, none⟩ = some (.int .i64 1) := (World.cell?_of_block (hM.block g hgl (fun hf => by have := HLT.out _ hf; omega))).trans HC0.out
  have k1 : w8.cell? ⟨g, 1, none⟩ = some (.int .i64 5) := (World.cell?_of_block (hM.block g hgl (fun hf => by have := HLT.out _ hf; omega))).trans HC1.out
  have k2 : w8.cell? ⟨g, 2, none⟩ = some (.slice (some ⟨g2, 0, none⟩) 1 ycap) := (World.cell?_of_block (hM.block g hgl (fun hf => by have := HLT.out _ hf; omega))).trans HC2.out
  have k3 : w8.cell? ⟨g2, 0, none⟩ = some (.string ⟨#[97]⟩) := (World.cell?_of_block (hM.block g2 hg2 (fun hf => by have := HLT.out _ hf; omega))).trans HD0.out
  have k4 : w8.cell? ⟨g3, 5, none⟩ = some (.string ⟨#[16, 1, 4]⟩) := by simp [World.cell?, hg3]
  have HT := hide hS8.told
  have HB8 := hide (HB7.out.trans hB8)
  have HL8 := hide hL8
  clear hg3 hM hS8 hL8 hB8
  go_wp2_with fail
  refine HT.out.mono ?_
  rintro e w9 ⟨tv, F9, rfl, ht, hS9, hM9, _⟩
  obtain ⟨tad, tcap, rfl⟩ := own_slice ht
  have HM9 := hide hM9
  clear ht hS9 hM9
  go_wp2_with fail
  go_ret
  refine ⟨rfl, ?_⟩
  have h1 := HB8.out
  exact ⟨HM9.out.os.trans h1.os, HM9.out.tape.trans h1.tape, HM9.out.output.trans h1.output, Nat.le_trans h1.size HM9.out.size, fun k hk => (HM9.out.block k (Nat.lt_of_lt_of_le hk h1.size) (fun hf => by have := HL8.out k hf; omega)).trans (h1.block k hk)⟩
end Go.Proofs.YtbbgkajmacknkaaGreat.K
end

section
namespace Go.Proofs.YtbbgkajmacknkaaGreat.K
open Go.ChangeShapes Go.WideShapes Go.ChangeAt Go.RowKit Go.Deep

theorem own : ownKnob Tryz.prog.godebug = none := by kernel_rfl
theorem Tryz.laidOut : laidOutB Tryz.prog = true := by kernel_rfl
theorem Tryz.cellsI : Tryz.prog.cellsOf 3 = 1 := by kernel_rfl
theorem Tryz.cellsS : Tryz.prog.cellsOf 9 = 1 := by kernel_rfl
theorem Tryz.cellsA : Tryz.prog.cellsOf 29 = 2 := by kernel_rfl
theorem Tryz.bytesI : Tryz.prog.bytesOf 3 = 8 := by kernel_rfl
theorem Tryz.bytesOc : Tryz.prog.bytesOf 37 = 88 := by kernel_rfl
theorem Tryz.cellsOc : Tryz.prog.cellsOf 37 = 9 := by kernel_rfl
/-- a call of a law -/
structure Oc where
  k : Int
  on : Int
  job : Int
  bdg : Int
  idx : Int
  tx : ByteArray
  da : ByteArray
  node : Int
  life : Int
def Oc.cs (d : Oc) : List Value := [.int .i64 d.k, .int .i64 d.on, .int .i64 d.job, .int .i64 d.bdg, .int .i64 d.idx, .string d.tx, .string d.da, .int .i64 d.node, .int .i64 d.life]
/-- calls that are read -/
structure Or (w : World) (ad : Option Addr) (ab ao : Nat) (L : List Oc) : Prop where
  at_ : 0 < L.length → ad = some ⟨ab, ao, none⟩
  c : ∀ i (h : i < L.length) k, k < 9 → w.cell? ⟨ab, ao + i * 9 + k, none⟩ = (L[i]).cs[k]?
  da : ∀ i (h : i < L.length), (L[i]).da.size ≤ 140737488355328
theorem Or.lt {w : World} {ad : Option Addr} {ab ao : Nat} {L : List Oc} (h : Or w ad ab ao L) (h0 : 0 < L.length) : ab < w.heap.size := World.block_lt_of_cell? _ _ (h.c 0 h0 0 (by decide))
theorem Or.keep {w w' : World} {ad : Option Addr} {ab ao : Nat} {L : List Oc} (h : Or w ad ab ao L) (hk : 0 < L.length → w'.heap[ab]? = w.heap[ab]?) : Or w' ad ab ao L :=
  ⟨h.at_, fun i hi k h8 => (World.cell?_of_block (hk (by omega))).trans (h.c i hi k h8), h.da⟩
theorem Or.nine {w : World} {ad : Option Addr} {ab ao : Nat} {L : List Oc} (h : Or w ad ab ao L) {i : Nat} (hi : i < L.length) :
    w.cell? ⟨ab, ao + i * 9, none⟩ = some (.int .i64 (L[i]).k) ∧ w.cell? ⟨ab, ao + i * 9 + 1, none⟩ = some (.int .i64 (L[i]).on) ∧ w.cell? ⟨ab, ao + i * 9 + 2, none⟩ = some (.int .i64 (L[i]).job) ∧ w.cell? ⟨ab, ao + i * 9 + 3, none⟩ = some (.int .i64 (L[i]).bdg) ∧ w.cell? ⟨ab, ao + i * 9 + 4, none⟩ = some (.int .i64 (L[i]).idx) ∧ w.cell? ⟨ab, ao + i * 9 + 5, none⟩ = some (.string (L[i]).tx) ∧ w.cell? ⟨ab, ao + i * 9 + 6, none⟩ = some (.string (L[i]).da) ∧ w.cell? ⟨ab, ao + i * 9 + 7, none⟩ = some (.int .i64 (L[i]).node) ∧ w.cell? ⟨ab, ao + i * 9 + 8, none⟩ = some (.int .i64 (L[i]).life) :=
  ⟨h.c i hi 0 (by decide), h.c i hi 1 (by decide), h.c i hi 2 (by decide), h.c i hi 3 (by decide), h.c i hi 4 (by decide), h.c i hi 5 (by decide), h.c i hi 6 (by decide), h.c i hi 7 (by decide), h.c i hi 8 (by decide)⟩
section
variable {H : Type} {enc : TypeId × Value → H}
theorem range_get {α : Type} (f : Nat → α) (n i : Nat) (h : i < ((List.range n).map f).length) : ((List.range n).map f)[i] = f i := by simp
theorem range_len {α : Type} (f : Nat → α) (n : Nat) : ((List.range n).map f).length = n := by simp
theorem weights_all_mem {P : Program} {e : TypeId} {d : DataW H} : ∀ {ds : List (DataW H)}, d ∈ ds → ∀ n ∈ d.weights P e, n ∈ DataW.weightsAll P e ds
  | d0 :: ds, h, n, hn => by
    simp only [DataW.weightsAll, List.mem_append]
    rcases List.mem_cons.mp h with rfl | h
    · exact Or.inl hn
    · exact Or.inr (weights_all_mem h n hn)
theorem sized_mem {P : Program} {ts : List TypeId} {ds : List (DataW H)} (h : (DataW.weightsEach P ts ds).all (· ≤ reachBytes) = true) {j : Nat} {t : TypeId} {d : DataW H} (ht : ts[j]? = some t) (hd : ds[j]? = some d) : ∀ k ∈ d.weights P t, k ≤ reachBytes := fun k hk => by
  simpa using List.all_eq_true.1 h _ (DataW.weights_mem_each ht hd k hk)
set_option maxRecDepth 20000 in
/-- a call, opened -/
theorem op_at {W : World} {n : Nat} {cs : List Value} {x : DataW H × List MemPlace} (h : DataW.trod enc Tryz.prog W 0 (fun _ => true) true n 37 cs = some x) (hw : ∀ k ∈ x.1.weights Tryz.prog 37, k ≤ reachBytes) :
    ∃ q : Oc, cs = q.cs ∧ q.da.size ≤ 140737488355328 := by
  obtain ⟨xs, n, _, hxx, hl, hlen, hfi⟩ := DataW.trod_struct Tryz.underlying37 h
  rw [Tryz.cellsOc] at hl
  obtain ⟨c0, c1, c2, c3, c4, c5, c6, c7, c8, rfl⟩ : ∃ c0 c1 c2 c3 c4 c5 c6 c7 c8, cs = [c0, c1, c2, c3, c4, c5, c6, c7, c8] := by
    match cs, hl with
    | [c0, c1, c2, c3, c4, c5, c6, c7, c8], _ => exact ⟨c0, c1, c2, c3, c4, c5, c6, c7, c8, rfl⟩
  have hx : ∀ i, i < 8 → ∃ y, xs[i]? = some y := fun i hi => ⟨xs[i]'(by rw [hlen]; exact hi), List.getElem?_eq_getElem _⟩
  obtain ⟨y0, hy0⟩ := hx 0 (by decide)
  have g0 : DataW.trod enc Tryz.prog W 0 (fun _ => true) true n 3 [c0] = some y0 := by
    have this : DataW.trod enc Tryz.prog W 0 (fun _ => true) true n 3 ((List.drop 0 [c0, c1, c2, c3, c4, c5, c6, c7, c8]).take (Tryz.prog.cellsOf 3)) = xs[0]? := hfi 0 _ rfl
    rw [Tryz.cellsI] at this
    rw [← hy0]; exact this
  obtain ⟨y1, hy1⟩ := hx 1 (by decide)
  have g1 : DataW.trod enc Tryz.prog W 0 (fun _ => true) true n 3 [c1] = some y1 := by
    have this : DataW.trod enc Tryz.prog W 0 (fun _ => true) true n 3 ((List.drop 1 [c0, c1, c2, c3, c4, c5, c6, c7, c8]).take (Tryz.prog.cellsOf 3)) = xs[1]? := hfi 1 _ rfl
    rw [Tryz.cellsI] at this
    rw [← hy1]; exact this
  obtain ⟨y2, hy2⟩ := hx 2 (by decide)
  have g2 : DataW.trod enc Tryz.prog W 0 (fun _ => true) true n 3 [c2] = some y2 := by
    have this : DataW.trod enc Tryz.prog W 0 (fun _ => true) true n 3 ((List.drop 2 [c0, c1, c2, c3, c4, c5, c6, c7, c8]).take (Tryz.prog.cellsOf 3)) = xs[2]? := hfi 2 _ rfl
    rw [Tryz.cellsI] at this
    rw [← hy2]; exact this
  obtain ⟨y3, hy3⟩ := hx 3 (by decide)
  have g3 : DataW.trod enc Tryz.prog W 0 (fun _ => true) true n 3 [c3] = some y3 := by
    have this : DataW.trod enc Tryz.prog W 0 (fun _ => true) true n 3 ((List.drop 3 [c0, c1, c2, c3, c4, c5, c6, c7, c8]).take (Tryz.prog.cellsOf 3)) = xs[3]? := hfi 3 _ rfl
    rw [Tryz.cellsI] at this
    rw [← hy3]; exact this
  obtain ⟨y4, hy4⟩ := hx 4 (by decide)
  have g4 : DataW.trod enc Tryz.prog W 0 (fun _ => true) true n 3 [c4] = some y4 := by
    have this : DataW.trod enc Tryz.prog W 0 (fun _ => true) true n 3 ((List.drop 4 [c0, c1, c2, c3, c4, c5, c6, c7, c8]).take (Tryz.prog.cellsOf 3)) = xs[4]? := hfi 4 _ rfl
    rw [Tryz.cellsI] at this
    rw [← hy4]; exact this
  obtain ⟨y5, hy5⟩ := hx 5 (by decide)
  have g5 : DataW.trod enc Tryz.prog W 0 (fun _ => true) true n 9 [c5] = some y5 := by
    have this : DataW.trod enc Tryz.prog W 0 (fun _ => true) true n 9 ((List.drop 5 [c0, c1, c2, c3, c4, c5, c6, c7, c8]).take (Tryz.prog.cellsOf 9)) = xs[5]? := hfi 5 _ rfl
    rw [Tryz.cellsS] at this
    rw [← hy5]; exact this
  obtain ⟨y6, hy6⟩ := hx 6 (by decide)
  have g6 : DataW.trod enc Tryz.prog W 0 (fun _ => true) true n 9 [c6] = some y6 := by
    have this : DataW.trod enc Tryz.prog W 0 (fun _ => true) true n 9 ((List.drop 6 [c0, c1, c2, c3, c4, c5, c6, c7, c8]).take (Tryz.prog.cellsOf 9)) = xs[6]? := hfi 6 _ rfl
    rw [Tryz.cellsS] at this
    rw [← hy6]; exact this
  obtain ⟨y7, hy7⟩ := hx 7 (by decide)
  have g7 : DataW.trod enc Tryz.prog W 0 (fun _ => true) true n 29 [c7, c8] = some y7 := by
    have this : DataW.trod enc Tryz.prog W 0 (fun _ => true) true n 29 ((List.drop 7 [c0, c1, c2, c3, c4, c5, c6, c7, c8]).take (Tryz.prog.cellsOf 29)) = xs[7]? := hfi 7 _ rfl
    rw [Tryz.cellsA] at this
    rw [← hy7]; exact this
  obtain ⟨z0, e0, _, _⟩ := DataW.trod_int Tryz.underlying3 g0
  obtain ⟨z1, e1, _, _⟩ := DataW.trod_int Tryz.underlying3 g1
  obtain ⟨z2, e2, _, _⟩ := DataW.trod_int Tryz.underlying3 g2
  obtain ⟨z3, e3, _, _⟩ := DataW.trod_int Tryz.underlying3 g3
  obtain ⟨z4, e4, _, _⟩ := DataW.trod_int Tryz.underlying3 g4
  obtain ⟨z5, e5, _, _⟩ := DataW.trod_string Tryz.underlying9 g5
  obtain ⟨z6, e6, f6, _⟩ := DataW.trod_string Tryz.underlying9 g6
  obtain ⟨us, n2, _, _, hl2, hlen2, hfi2⟩ := DataW.trod_struct Tryz.underlying29 g7
  have hu : ∀ i, i < 2 → ∃ y, us[i]? = some y := fun i hi => ⟨us[i]'(by rw [hlen2]; exact hi), List.getElem?_eq_getElem _⟩
  obtain ⟨u0, hu0⟩ := hu 0 (by decide)
  obtain ⟨u1, hu1⟩ := hu 1 (by decide)
  have k0 : DataW.trod enc Tryz.prog W 0 (fun _ => true) true n2 3 [c7] = some u0 := by
    have this : DataW.trod enc Tryz.prog W 0 (fun _ => true) true n2 3 ((List.drop 0 [c7, c8]).take (Tryz.prog.cellsOf 3)) = us[0]? := hfi2 0 _ rfl
    rw [Tryz.cellsI] at this
    rw [← hu0]; exact this
  have k1 : DataW.trod enc Tryz.prog W 0 (fun _ => true) true n2 3 [c8] = some u1 := by
    have this : DataW.trod enc Tryz.prog W 0 (fun _ => true) true n2 3 ((List.drop 1 [c7, c8]).take (Tryz.prog.cellsOf 3)) = us[1]? := hfi2 1 _ rfl
    rw [Tryz.cellsI] at this
    rw [← hu1]; exact this
  obtain ⟨r0, er0, _, _⟩ := DataW.trod_int Tryz.underlying3 k0
  obtain ⟨r1, er1, _, _⟩ := DataW.trod_int Tryz.underlying3 k1
  simp only [List.cons.injEq, and_true] at e0 e1 e2 e3 e4 e5 e6 er0 er1
  refine ⟨⟨z0, z1, z2, z3, z4, z5, z6, r0, r1⟩, by rw [e0, e1, e2, e3, e4, e5, e6, er0, er1]; rfl, ?_⟩
  have h1 := hw z6.data.toList.length (by
    rw [hxx]
    simp only [DataW.weights, Tryz.underlying37]
    refine DataW.weights_mem_each (j := 6) rfl (by rw [List.getElem?_map, hy6]; rfl) _ ?_
    rw [f6]
    simp [DataW.weights])
  simp only [reachBytes] at h1
  show z6.size ≤ _
  have h2 : z6.size = z6.data.toList.length := by simp
  omega
set_option maxRecDepth 20000 in
/-- a slice of calls, opened -/
theorem ops_at {W : World} {n : Nat} {v : Value} {x : DataW H × List MemPlace} (h : DataW.trod enc Tryz.prog W 0 (fun _ => true) true n 22 [v] = some x) (hw : ∀ k ∈ x.1.weights Tryz.prog 22, k ≤ reachBytes) :
    ∃ (ad : Option Addr) (cap ab ao : Nat) (l : List Oc), v = .slice ad l.length cap ∧ Or W ad ab ao l ∧ l.length ≤ 1599289640356 := by
  rcases open_slice (cs := [v]) Tryz.underlying22 h with ⟨hc, _⟩ | ⟨a, len, cap, m, k, D, Pl, hc, _, hl, hm, hmm, hx, hall⟩
  · simp only [List.cons.injEq, and_true] at hc
    exact ⟨none, 0, 0, 0, [], hc, ⟨fun h => absurd h (by simp), fun i h => absurd h (by simp), fun i h => absurd h (by simp)⟩, by simp⟩
  · simp only [List.cons.injEq, and_true] at hc
    simp only [if_true] at hmm
    subst hmm
    have hle : len ≤ 1599289640356 := by
      have := hw (len * 88 + (m - len) * 88) (by
        rw [hx]; simp only [DataW.weights, Tryz.underlying22, Tryz.bytesOc]
        simp only [List.length_map, List.length_range, List.mem_cons]
        left; rw [Nat.add_mul])
      simp only [reachBytes] at this; omega
    have each : ∀ i, i < len → ∃ q : Oc, (∀ k, k < 9 → W.cell? (a.add (i * 9 + k)) = q.cs[k]?) ∧ q.da.size ≤ 140737488355328 := by
      intro i hi
      obtain ⟨cs', g1, g2⟩ := hall i (by omega)
      rw [Tryz.cellsOc] at g1
      obtain ⟨_, hlen, hcell⟩ := World.cells?_some g1
      obtain ⟨q, rfl, hq⟩ := op_at g2 (fun k hk => hw k (by
        rw [hx]; simp only [DataW.weights, Tryz.underlying22]
        refine List.mem_cons_of_mem _ (List.mem_append_left _ (weights_all_mem (d := D i) ?_ k hk))
        exact List.mem_map.mpr ⟨i, List.mem_range.mpr hi, rfl⟩))
      refine ⟨q, fun k hk => ?_, hq⟩
      have hck := hcell k (by simpa using hk)
      rw [add_add] at hck
      exact hck
    have hI : Inhabited Oc := ⟨⟨0, 0, 0, 0, 0, ByteArray.empty, ByteArray.empty, 0, 0⟩⟩
    obtain ⟨q, hq⟩ := choose_lt each
    have hspot : 0 < len → a = ⟨a.block, a.off, none⟩ := fun h0 => by
      have h1 := (hq 0 h0).1 0 (by decide)
      obtain ⟨ab, ao, spot⟩ := a
      have : spot = none := by simpa [Addr.add] using World.cell?_spot h1
      rw [this]
    refine ⟨some a, m, a.block, a.off, (List.range len).map q, by rw [range_len]; exact hc, ⟨fun h => ?_, fun i hi k hk => ?_, fun i hi => ?_⟩, by rw [range_len]; exact hle⟩
    · rw [range_len] at h; rw [← hspot h]
    · have hi' := hi
      rw [range_len] at hi'
      rw [range_get]
      have h1 := (hq i hi').1 k hk
      rw [hspot (by omega), Addr.add_lit] at h1
      rw [Nat.add_assoc]
      exact h1
    · have hi' := hi
      rw [range_len] at hi'
      rw [range_get]
      exact (hq i hi').2
end
end Go.Proofs.YtbbgkajmacknkaaGreat.K
end

section
namespace Go.Proofs.YtbbgkajmacknkaaGreat.K
set_option maxRecDepth 20000
open Go.ChangeShapes Go.WideShapes Go.ChangeAt Go.RowKit Go.Deep

theorem Tryz.cellsI1a : Tryz.prog.cellsOf 3 = 1 := by kernel_rfl
theorem Tryz.cellsA2a : Tryz.prog.cellsOf 29 = 2 := by kernel_rfl
/-- an address, opened -/
theorem addr_of {H : Type} {enc : TypeId × Value → H} {W : World} {base : Nat} {v : Value} {d : DataW H} {ps : List MemPlace} (hv : Value.okWide Tryz.prog W .any base 29 v) (h : DataW.Trod enc Tryz.prog W 0 (fun _ => true) true 29 v d ps) :
    ∃ a b : Int, v = .agg #[.int .i64 a, .int .i64 b] := by
  obtain ⟨cs, rfl, hsz⟩ := okWide_struct Tryz.underlying29 hv
  obtain ⟨c0, c1, rfl⟩ : ∃ c0 c1, cs = #[c0, c1] := by
    obtain ⟨l⟩ := cs
    match l, hsz.trans Tryz.cellsA2a with
    | [c0, c1], _ => exact ⟨c0, c1, rfl⟩
  obtain ⟨fuel, hf⟩ := h
  obtain ⟨xs, n, _, _, hl, hlen, hfi⟩ := DataW.trod_struct Tryz.underlying29 hf
  have hx : ∀ i, i < 2 → ∃ y, xs[i]? = some y := fun i hi => ⟨xs[i]'(by rw [hlen]; exact hi), List.getElem?_eq_getElem _⟩
  obtain ⟨y0, hy0⟩ := hx 0 (by decide)
  have g0 : DataW.trod enc Tryz.prog W 0 (fun _ => true) true n 3 [c0] = some y0 := by
    have this : DataW.trod enc Tryz.prog W 0 (fun _ => true) true n 3 ((List.drop 0 [c0, c1]).take (Tryz.prog.cellsOf 3)) = xs[0]? := hfi 0 _ rfl
    rw [Tryz.cellsI1a] at this
    rw [← hy0]; exact this
  obtain ⟨z0, e0, _, _⟩ := DataW.trod_int Tryz.underlying3 g0
  obtain ⟨y1, hy1⟩ := hx 1 (by decide)
  have g1 : DataW.trod enc Tryz.prog W 0 (fun _ => true) true n 3 [c1] = some y1 := by
    have this : DataW.trod enc Tryz.prog W 0 (fun _ => true) true n 3 ((List.drop 1 [c0, c1]).take (Tryz.prog.cellsOf 3)) = xs[1]? := hfi 1 _ rfl
    rw [Tryz.cellsI1a] at this
    rw [← hy1]; exact this
  obtain ⟨z1, e1, _, _⟩ := DataW.trod_int Tryz.underlying3 g1
  simp only [List.cons.injEq, and_true] at e0 e1
  exact ⟨z0, z1, by rw [e0, e1]⟩
end Go.Proofs.YtbbgkajmacknkaaGreat.K
end
