import Derived.Test.YtapcmmljdpallaaSkM
namespace Go.Proofs.Ytapcmmljdpallaa.K
open Go.RowKit Go.MapKept Go.Shelf
open Wr (Ms)
set_option maxRecDepth 20000

theorem Gp.low {w w' : World} {b B : Nat} {s : St} {T : List Ev} {F : Nat → Prop} (h : Gp F b s T w w') (hl : ∀ k, F k → B ≤ k) (hB : B ≤ w.heap.size) : ∃ F', Sk w' b s T F' ∧ (∀ k, F' k → B ≤ k) ∧ Below B w w' := by
  obtain ⟨F', h1, h2, h3⟩ := h
  exact ⟨F', h1, fun k hk => (h3 k hk).elim (hl k) (fun h => by omega), ⟨h2.os, h2.tape, h2.output, h2.size, fun k hk => h2.block k (by omega) (fun hf => by have := hl k hf; omega)⟩⟩
def sA : St := fun j => if j = 1 then (5, []) else (0, [])
def sB : St := fun j => if j = 1 then (5, [⟨#[97]⟩]) else (0, [])
theorem pe_1 : pe st0 1 5 0 ⟨#[]⟩ = 0 := by decide
theorem adm_1 : adm st0 1 5 0 ⟨#[]⟩ = true := by decide
theorem ans_1 : ans st0 1 5 0 ⟨#[]⟩ = 1 := by decide
theorem news_1 : news st0 1 5 0 ⟨#[]⟩ = [⟨1, 5, 0, ⟨#[]⟩⟩] := by unfold news; rw [adm_1]; rfl
theorem nxt_1 : nxt st0 1 5 0 ⟨#[]⟩ = sA := by
  unfold nxt
  rw [adm_1, if_pos rfl]
  funext j
  unfold st0 sA
  by_cases e : j = 1
  · simp [e]
  · simp [e]
theorem put_1 {w : World} {b B : Nat} {T : List Ev} {F : Nat → Prop} (h : Sk w b st0 T F) (hT : T.length ≤ 1000000000) (hl : ∀ k, F k → B ≤ k) (hB : B ≤ w.heap.size) :
    Calls Try.prog 9 #[.pointer (some ⟨b, 0, none⟩), .int .i64 1, .int .i64 5, .int .i64 0, .string ⟨#[]⟩] w fun e w' => e = .returned (.tuple #[.int .i64 1, .bool true, .int .i64 0]) ∧ ∃ F', Sk w' b sA (T ++ [⟨1, 5, 0, ⟨#[]⟩⟩]) F' ∧ (∀ k, F' k → B ≤ k) ∧ Below B w w' := by
  have h1 := h.put hT 1 5 0 ⟨#[]⟩
  rw [pe_1, adm_1, ans_1, news_1, nxt_1] at h1
  exact h1.mono fun e w' h2 => ⟨h2.1, h2.2.low hl hB⟩
theorem pe_2 : pe sA 1 5 1 ⟨#[97]⟩ = 0 := by decide
theorem adm_2 : adm sA 1 5 1 ⟨#[97]⟩ = true := by decide
theorem ans_2 : ans sA 1 5 1 ⟨#[97]⟩ = 2 := by decide
theorem news_2 : news sA 1 5 1 ⟨#[97]⟩ = [⟨1, 5, 1, ⟨#[97]⟩⟩] := by unfold news; rw [adm_2]; rfl
theorem nxt_2 : nxt sA 1 5 1 ⟨#[97]⟩ = sB := by
  unfold nxt
  rw [adm_2, if_pos rfl]
  funext j
  unfold sA sB
  by_cases e : j = 1
  · simp [e]
  · simp [e]
theorem put_2 {w : World} {b B : Nat} {T : List Ev} {F : Nat → Prop} (h : Sk w b sA T F) (hT : T.length ≤ 1000000000) (hl : ∀ k, F k → B ≤ k) (hB : B ≤ w.heap.size) :
    Calls Try.prog 9 #[.pointer (some ⟨b, 0, none⟩), .int .i64 1, .int .i64 5, .int .i64 1, .string ⟨#[97]⟩] w fun e w' => e = .returned (.tuple #[.int .i64 2, .bool true, .int .i64 0]) ∧ ∃ F', Sk w' b sB (T ++ [⟨1, 5, 1, ⟨#[97]⟩⟩]) F' ∧ (∀ k, F' k → B ≤ k) ∧ Below B w w' := by
  have h1 := h.put hT 1 5 1 ⟨#[97]⟩
  rw [pe_2, adm_2, ans_2, news_2, nxt_2] at h1
  exact h1.mono fun e w' h2 => ⟨h2.1, h2.2.low hl hB⟩
theorem pe_3 : pe sB 1 4 0 ⟨#[]⟩ = 161 := by decide
theorem adm_3 : adm sB 1 4 0 ⟨#[]⟩ = false := by decide
theorem ans_3 : ans sB 1 4 0 ⟨#[]⟩ = 0 := by decide
theorem news_3 : news sB 1 4 0 ⟨#[]⟩ = [] := by unfold news; rw [adm_3]; rfl
theorem nxt_3 : nxt sB 1 4 0 ⟨#[]⟩ = sB := by unfold nxt; rw [adm_3]; rfl
theorem put_3 {w : World} {b B : Nat} {T : List Ev} {F : Nat → Prop} (h : Sk w b sB T F) (hT : T.length ≤ 1000000000) (hl : ∀ k, F k → B ≤ k) (hB : B ≤ w.heap.size) :
    Calls Try.prog 9 #[.pointer (some ⟨b, 0, none⟩), .int .i64 1, .int .i64 4, .int .i64 0, .string ⟨#[]⟩] w fun e w' => e = .returned (.tuple #[.int .i64 0, .bool false, .int .i64 161]) ∧ ∃ F', Sk w' b sB (T ++ []) F' ∧ (∀ k, F' k → B ≤ k) ∧ Below B w w' := by
  have h1 := h.put hT 1 4 0 ⟨#[]⟩
  rw [pe_3, adm_3, ans_3, news_3, nxt_3] at h1
  exact h1.mono fun e w' h2 => ⟨h2.1, h2.2.low hl hB⟩
theorem pe_4 : pe sB 0 5 0 ⟨#[]⟩ = 160 := by decide
theorem adm_4 : adm sB 0 5 0 ⟨#[]⟩ = false := by decide
theorem ans_4 : ans sB 0 5 0 ⟨#[]⟩ = 0 := by decide
theorem news_4 : news sB 0 5 0 ⟨#[]⟩ = [] := by unfold news; rw [adm_4]; rfl
theorem nxt_4 : nxt sB 0 5 0 ⟨#[]⟩ = sB := by unfold nxt; rw [adm_4]; rfl
theorem put_4 {w : World} {b B : Nat} {T : List Ev} {F : Nat → Prop} (h : Sk w b sB T F) (hT : T.length ≤ 1000000000) (hl : ∀ k, F k → B ≤ k) (hB : B ≤ w.heap.size) :
    Calls Try.prog 9 #[.pointer (some ⟨b, 0, none⟩), .int .i64 0, .int .i64 5, .int .i64 0, .string ⟨#[]⟩] w fun e w' => e = .returned (.tuple #[.int .i64 0, .bool false, .int .i64 160]) ∧ ∃ F', Sk w' b sB (T ++ []) F' ∧ (∀ k, F' k → B ≤ k) ∧ Below B w w' := by
  have h1 := h.put hT 0 5 0 ⟨#[]⟩
  rw [pe_4, adm_4, ans_4, news_4, nxt_4] at h1
  exact h1.mono fun e w' h2 => ⟨h2.1, h2.2.low hl hB⟩
theorem pe_5 : pe sB 1 5 3 ⟨#[]⟩ = 162 := by decide
theorem adm_5 : adm sB 1 5 3 ⟨#[]⟩ = false := by decide
theorem ans_5 : ans sB 1 5 3 ⟨#[]⟩ = 0 := by decide
theorem news_5 : news sB 1 5 3 ⟨#[]⟩ = [] := by unfold news; rw [adm_5]; rfl
theorem nxt_5 : nxt sB 1 5 3 ⟨#[]⟩ = sB := by unfold nxt; rw [adm_5]; rfl
theorem put_5 {w : World} {b B : Nat} {T : List Ev} {F : Nat → Prop} (h : Sk w b sB T F) (hT : T.length ≤ 1000000000) (hl : ∀ k, F k → B ≤ k) (hB : B ≤ w.heap.size) :
    Calls Try.prog 9 #[.pointer (some ⟨b, 0, none⟩), .int .i64 1, .int .i64 5, .int .i64 3, .string ⟨#[]⟩] w fun e w' => e = .returned (.tuple #[.int .i64 0, .bool false, .int .i64 162]) ∧ ∃ F', Sk w' b sB (T ++ []) F' ∧ (∀ k, F' k → B ≤ k) ∧ Below B w w' := by
  have h1 := h.put hT 1 5 3 ⟨#[]⟩
  rw [pe_5, adm_5, ans_5, news_5, nxt_5] at h1
  exact h1.mono fun e w' h2 => ⟨h2.1, h2.2.low hl hB⟩
theorem pe_6 : pe sB 1 5 0 ⟨#[120]⟩ = 163 := by decide
theorem adm_6 : adm sB 1 5 0 ⟨#[120]⟩ = false := by decide
theorem ans_6 : ans sB 1 5 0 ⟨#[120]⟩ = 0 := by decide
theorem news_6 : news sB 1 5 0 ⟨#[120]⟩ = [] := by unfold news; rw [adm_6]; rfl
theorem nxt_6 : nxt sB 1 5 0 ⟨#[120]⟩ = sB := by unfold nxt; rw [adm_6]; rfl
theorem put_6 {w : World} {b B : Nat} {T : List Ev} {F : Nat → Prop} (h : Sk w b sB T F) (hT : T.length ≤ 1000000000) (hl : ∀ k, F k → B ≤ k) (hB : B ≤ w.heap.size) :
    Calls Try.prog 9 #[.pointer (some ⟨b, 0, none⟩), .int .i64 1, .int .i64 5, .int .i64 0, .string ⟨#[120]⟩] w fun e w' => e = .returned (.tuple #[.int .i64 0, .bool false, .int .i64 163]) ∧ ∃ F', Sk w' b sB (T ++ []) F' ∧ (∀ k, F' k → B ≤ k) ∧ Below B w w' := by
  have h1 := h.put hT 1 5 0 ⟨#[120]⟩
  rw [pe_6, adm_6, ans_6, news_6, nxt_6] at h1
  exact h1.mono fun e w' h2 => ⟨h2.1, h2.2.low hl hB⟩
theorem one_of {Y : List Az} (h : Ls sB Y) : ∃ ad cap, Y = [⟨1, 5, ad, cap, [⟨#[97]⟩]⟩] := by
  have hj : ∀ y ∈ Y, y.job = 1 ∧ y.bdg = 5 ∧ y.pcs = [⟨#[97]⟩] := fun y hy => by
    have h1 := h.at_ y hy
    have h2 := (h.ok y hy).2.2.1
    unfold sB at h1
    by_cases e : y.job = 1
    · rw [if_pos e] at h1
      injection h1 with h3 h4
      exact ⟨e, h3.symm, h4.symm⟩
    · rw [if_neg e] at h1
      injection h1 with h3 h4
      omega
  obtain ⟨y, hy, e⟩ := h.all 1 (by decide)
  match Y, hj, h.rise, hy with
  | [x], hj, _, _ =>
    obtain ⟨h1, h2, h3⟩ := hj x (.head _)
    obtain ⟨xj, xb, ad, cap, ps⟩ := x
    simp only at h1 h2 h3
    subst h1; subst h2; subst h3
    exact ⟨ad, cap, rfl⟩
  | x :: z :: l, hj, hr, _ =>
    have h1 := (List.pairwise_cons.1 hr).1 z (.head _)
    have h2 := (hj x (.head _)).1
    have h3 := (hj z (.tail _ (.head _))).1
    omega
def mPut : Ms := ⟨6, 0, 0, 1, 4, 0, 0, 0, 0, ⟨#[]⟩, ⟨#[]⟩⟩
theorem mput_ok : Wr.check mPut = 0 := by decide
theorem mput_dec : Wr.decode limP ⟨#[6, 1, 4, 0, 0]⟩ = (mPut, 0) := by
  refine Wr.decode_there lim_p (by decide) mput_ok (by decide) ?_
  show [6, 1, 4, 0, 0] = Pk.enc 6 ++ (Pk.enc 1 ++ (Pk.enc 4 ++ (Pk.enc 0 ++ ((Pk.enc 0 ++ []) ++ []))))
  rw [Pk.enc_lt (n := 6) (by decide), Pk.enc_lt (n := 1) (by decide), Pk.enc_lt (n := 4) (by decide), Pk.enc_lt (n := 0) (by decide)]; rfl
theorem mput_rep : encB (rep sB mPut) = ⟨#[16, 1, 4]⟩ := by
  have h1 : rep sB mPut = ⟨16, 0, 0, 1, 4, 0, 0, 0, 0, ⟨#[]⟩, ⟨#[]⟩⟩ := if_pos pe_3
  rw [h1]
  unfold encB
  rw [if_pos (by decide)]
  have : Wr.bytes ⟨16, 0, 0, 1, 4, 0, 0, 0, 0, ⟨#[]⟩, ⟨#[]⟩⟩ = [16, 1, 4] := by
    show Pk.enc 16 ++ (Pk.enc 1 ++ (Pk.enc 4 ++ [])) = _
    rw [Pk.enc_lt (n := 16) (by decide), Pk.enc_lt (n := 1) (by decide), Pk.enc_lt (n := 4) (by decide)]; rfl
  rw [this]
theorem hear_1 {w : World} {b B : Nat} {T : List Ev} {F : Nat → Prop} (h : Sk w b sB T F) (hT : T.length ≤ 1000000000) (hl : ∀ k, F k → B ≤ k) (hB : B ≤ w.heap.size) :
    Calls Try.prog 8 #[.pointer (some ⟨b, 0, none⟩), .agg #[.int .i64 2, .int .i64 1], .string ⟨#[6, 1, 4, 0, 0]⟩] w fun e w' => ∃ g, e = .returned (.slice (some ⟨g, 0, none⟩) 1 1) ∧ w'.heap[g]? = some (.cells #[.int .i64 0, .int .i64 1, .int .i64 0, .int .i64 2, .int .i64 1, .string ⟨#[16, 1, 4]⟩] 59 (0, 0)) ∧ Mv F w w' ∧ ∃ F', Sk w' b sB T F' ∧ (∀ k, F' k → B ≤ k) ∧ Below B w w' := by
  have hp : isPut ⟨#[6, 1, 4, 0, 0]⟩ = true := by unfold isPut; rw [mput_dec]; rfl
  have hmd : hm ⟨#[6, 1, 4, 0, 0]⟩ = mPut := by unfold hm; rw [mput_dec]
  have h1 := h.hear hT 2 1 ⟨#[6, 1, 4, 0, 0]⟩ (by decide)
  refine h1.mono fun e w' h2 => ?_
  obtain ⟨hg, h3⟩ := h2
  have e1 : hst sB ⟨#[6, 1, 4, 0, 0]⟩ = sB := by unfold hst; rw [hp, if_pos rfl, hmd]; exact nxt_3
  have e2 : hnw sB ⟨#[6, 1, 4, 0, 0]⟩ = [] := by unfold hnw; rw [hp, if_pos rfl, hmd]; exact news_3
  rw [e1, e2, List.append_nil] at hg
  rcases h3 with ⟨h3, _⟩ | ⟨_, g, he, hgs, hgb, hM⟩
  · rw [hp] at h3; cases h3
  · rw [hmd, mput_rep] at hgb
    exact ⟨g, he, hgb, hM, hg.low hl hB⟩
set_option maxHeartbeats 4000000 in
theorem awake_any (w : World) : Calls Try.prog 7 #[] w fun e w' => e = .returned (.bool true) ∧ Below w.heap.size w w' := by
  go_enter Try.func7, Try.ntmps7
  go_wp2_with fail
  refine (new_st w).mono ?_
  rintro e w0 ⟨b, F0, rfl, hS0, hB0, hL0⟩
  have HS0 := hide hS0
  have HB0 := hide hB0
  have HL0 := hide hL0
  clear hS0 hB0 hL0
  have hptr : ∀ w1 : World, (binOp .eql 23 (.pointer (some ⟨b, 0, none⟩)) (.pointer none)).run Try.prog w1 = .ok (.bool false) w1 := fun _ => by kernel_rfl
  go_wp2_with fail
  refine (put_1 HS0.out (by decide) HL0.out HB0.out.size).mono ?_
  rintro e w1 ⟨rfl, F1, hS1, hL1, hB1⟩
  have HS1 := hide hS1
  have HB1 := hide (HB0.out.trans hB1)
  have HL1 := hide hL1
  clear hS1 hB1 hL1
  go_wp2_with fail
  refine (put_2 HS1.out (by decide) HL1.out HB1.out.size).mono ?_
  rintro e w2 ⟨rfl, F2, hS2, hL2, hB2⟩
  have HS2 := hide hS2
  have HB2 := hide (HB1.out.trans hB2)
  have HL2 := hide hL2
  clear hS2 hB2 hL2
  go_wp2_with fail
  refine (put_3 HS2.out (by decide) HL2.out HB2.out.size).mono ?_
  rintro e w3 ⟨rfl, F3, hS3, hL3, hB3⟩
  have HS3 := hide hS3
  have HB3 := hide (HB2.out.trans hB3)
  have HL3 := hide hL3
  clear hS3 hB3 hL3
  go_wp2_with fail
  refine (put_4 HS3.out (by decide) HL3.out HB3.out.size).mono ?_
  rintro e w4 ⟨rfl, F4, hS4, hL4, hB4⟩
  have HS4 := hide hS4
  have HB4 := hide (HB3.out.trans hB4)
  have HL4 := hide hL4
  clear hS4 hB4 hL4
  go_wp2_with fail
  refine (put_5 HS4.out (by decide) HL4.out HB4.out.size).mono ?_
  rintro e w5 ⟨rfl, F5, hS5, hL5, hB5⟩
  have HS5 := hide hS5
  have HB5 := hide (HB4.out.trans hB5)
  have HL5 := hide hL5
  clear hS5 hB5 hL5
  go_wp2_with fail
  refine (put_6 HS5.out (by decide) HL5.out HB5.out.size).mono ?_
  rintro e w6 ⟨rfl, F6, hS6, hL6, hB6⟩
  have HS6 := hide hS6
  have HB6 := hide (HB5.out.trans hB6)
  have HL6 := hide hL6
  clear hS6 hB6 hL6
  go_wp2_with fail
  refine HS6.out.arts.mono ?_
  rintro e w7 ⟨ad, g, cap, Y, rfl, hR, hLs, hP, hg, hB⟩
  obtain ⟨yad, ycap, rfl⟩ := one_of hLs
  have hsz6 := HB6.out.size
  have hgs := hg (by simp)
  have had := hR.at_ (by simp)
  subst had
  obtain ⟨c0, c1, c2⟩ := hR.three0 (i := 0) (by simp)
  have hrow := hP _ (.head _)
  simp only [List.length_singleton] at hrow
  rcases own_form hrow with ⟨_, h0⟩ | ⟨g2, cap2, hv, hg2⟩
  · cases h0
  injection hv with hv1 _ hv2
  subst hv1; subst hv2
  have hg2s : w6.heap.size ≤ g2 := (hrow.lt g2 rfl).1
  have d0 : w7.cell? ⟨g2, 0, none⟩ = some (.string ⟨#[97]⟩) := by
    have := hrow.cells (g := g2) rfl 0 _ rfl
    rw [Addr.add_lit] at this
    exact this
  have HS7 := hide (HS6.out.below hB)
  have HB7 := hide (HB6.out.trans (hB.mono hsz6))
  have HLT := hide HS6.out.lt
  have hgl : g < w7.heap.size := World.block_lt_of_cell? _ _ c0
  simp only [List.getElem_cons_zero, Nat.zero_mul, Nat.zero_add] at c0 c1 c2
  have HC0 := hide c0
  have HC1 := hide c1
  have HC2 := hide c2
  have HD0 := hide d0
  clear hR hLs hP hg hB hrow c0 c1 c2 d0
  go_wp2_with fail
  refine (hear_1 HS7.out (by decide) HL6.out HB7.out.size).mono ?_
  rintro e w8 ⟨g3, rfl, hg3, hM, F8, hS8, hL8, hB8⟩
  have k0 : w8.cell? ⟨g, 0, none⟩ = some (.int .i64 1) := (World.cell?_of_block (hM.block g hgl (fun hf => by have := HLT.out _ hf; omega))).trans HC0.out
  have k1 : w8.cell? ⟨g, 1, none⟩ = some (.int .i64 5) := (World.cell?_of_block (hM.block g hgl (fun hf => by have := HLT.out _ hf; omega))).trans HC1.out
  have k2 : w8.cell? ⟨g, 2, none⟩ = some (.slice (some ⟨g2, 0, none⟩) 1 ycap) := (World.cell?_of_block (hM.block g hgl (fun hf => by have := HLT.out _ hf; omega))).trans HC2.out
  have k3 : w8.cell? ⟨g2, 0, none⟩ = some (.string ⟨#[97]⟩) := (World.cell?_of_block (hM.block g2 hg2 (fun hf => by have := HLT.out _ hf; omega))).trans HD0.out
  have k4 : w8.cell? ⟨g3, 5, none⟩ = some (.string ⟨#[16, 1, 4]⟩) := by simp [World.cell?, hg3]
  have HT := hide hS8.told
  have HB8 := hide (HB7.out.trans hB8)
  have HL8 := hide hL8
  clear hg3 hM hS8 hL8 hB8
  go_wp2_with fail
  refine HT.out.mono ?_
  rintro e w9 ⟨tv, F9, rfl, ht, hS9, hM9, _⟩
  obtain ⟨tad, tcap, rfl⟩ := own_slice ht
  have HM9 := hide hM9
  clear ht hS9 hM9
  go_wp2_with fail
  go_ret
  refine ⟨rfl, ?_⟩
  have h1 := HB8.out
  exact ⟨HM9.out.os.trans h1.os, HM9.out.tape.trans h1.tape, HM9.out.output.trans h1.output, Nat.le_trans h1.size HM9.out.size, fun k hk => (HM9.out.block k (Nat.lt_of_lt_of_le hk h1.size) (fun hf => by have := HL8.out k hf; omega)).trans (h1.block k hk)⟩
end Go.Proofs.Ytapcmmljdpallaa.K
