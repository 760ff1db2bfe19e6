import Derived.Test.YtepondcflkledaaGreatMgBH

section
namespace Go.Proofs.YtepondcflkledaaGreat.S
set_option maxRecDepth 20000
open Go.RowKit
open Rc (Ch)
open Q (Rr rr0 Qm Ft Mv)

set_option maxHeartbeats 1000000 in
theorem maystand_any {w : World} {r : Rr} {pr : ByteArray} {tp : Option Addr} {nl tc : Nat} {res : Int} (h1 : r.bdg ≤ res) (h2 : 1 ≤ pr.size) (h3 : r.att = 0 → nl = 0) (h4 : 0 ≤ r.att) :
    Calls Tryz.prog 55 #[.agg #[.int .i64 r.job, .int .i64 r.st, .int .i64 r.att, .int .i64 r.bdg, .int .i64 r.node, .int .i64 r.life, .int .i64 r.code, .int .u64 r.bits, .string pr, .slice tp nl tc], .int .i64 res] w fun e w' => e = .returned (.bool true) ∧ Below w.heap.size w w' := by
  have hne : ¬ pr.toList = [] := fun e => by
    have h5 : pr.toList.length = pr.size := by rw [ByteArray.toList_eq]; rfl
    rw [e] at h5; simp at h5; omega
  have hie : pr.toList.isEmpty = false := by cases h : pr.toList with | nil => exact absurd h hne | cons a l => rfl
  have HB := hide (below_alloc w (.cells #[.int .i64 r.job, .int .i64 r.st, .int .i64 r.att, .int .i64 r.bdg, .int .i64 r.node, .int .i64 r.life, .int .i64 r.code, .int .u64 r.bits, .string pr, .slice tp nl tc] 84))
  have HN := hide h3
  clear h3 h2
  by_cases ha : 0 < r.att
  · clear h4
    go_enter Tryz.func55, Tryz.ntmps55
    go_wp2_with fail
    go_ret
    exact ⟨rfl, HB.out⟩
  · have hn : nl = 0 := HN.out (by omega)
    subst hn
    clear h4 HN
    go_enter Tryz.func55, Tryz.ntmps55
    go_wp2_with fail
    go_ret
    exact ⟨rfl, HB.out⟩
/-- what is kept, as cells, without a queue yet -/
abbrev kcn (r : Int) (p : Nat → Pp) (T : Nat → Value) : Array Value := #[.pointer none, .int .i64 r, .string (p 0).pr, T 0, .string (p 1).pr, T 1, .string (p 2).pr, T 2, .string (p 3).pr, T 3, .string (p 4).pr, T 4, .string (p 5).pr, T 5, .string (p 6).pr, T 6, .string (p 7).pr, T 7]
theorem kcn_set (r : Int) (p : Nat → Pp) (T : Nat → Value) {i : Nat} (h : i < 8) (x : Pp) (t : Value) : ((kcn r p T).setIfInBounds (2 + i * 2) (.string x.pr)).setIfInBounds (2 + i * 2 + 1) t = kcn r (upd p i x) (upd T i t) := by
  rcases lt8 h with rfl | rfl | rfl | rfl | rfl | rfl | rfl | rfl <;> rfl
theorem kcn_pr (r : Int) (p : Nat → Pp) (T : Nat → Value) {i : Nat} (h : i < 8) : (kcn r p T)[2 + i * 2]? = some (.string (p i).pr) := by
  rcases lt8 h with rfl | rfl | rfl | rfl | rfl | rfl | rfl | rfl <;> rfl
theorem kcn_lg (r : Int) (p : Nat → Pp) (T : Nat → Value) {i : Nat} (h : i < 8) : (kcn r p T)[2 + i * 2 + 1]? = some (T i) := by
  rcases lt8 h with rfl | rfl | rfl | rfl | rfl | rfl | rfl | rfl <;> rfl
def pzk (s : Sx) (k : Nat) : Nat → Pp := fun i => if i < k then s.pa i else pp0
def tzk (J : List Jb) (k : Nat) : Nat → Value := fun i => if i < k then (J.map Jb.t).getD i (.slice none 0 0) else .slice none 0 0
theorem pzk_step (s : Sx) (k : Nat) : upd (pzk s k) k (s.pa k) = pzk s (k + 1) := by
  funext i
  unfold upd pzk
  by_cases e : i = k
  · subst e; simp
  · rw [if_neg e]
    by_cases h : i < k
    · rw [if_pos h, if_pos (by omega)]
    · rw [if_neg h, if_neg (by omega)]
theorem tzk_step {J : List Jb} {k : Nat} (h : k < J.length) : upd (tzk J k) k (J[k]).t = tzk J (k + 1) := by
  funext i
  unfold upd tzk
  by_cases e : i = k
  · subst e
    rw [if_pos rfl, if_pos (Nat.lt_succ_self _), List.getD_eq_getElem?_getD, List.getElem?_map, List.getElem?_eq_getElem h]; rfl
  · rw [if_neg e]
    by_cases h : i < k
    · rw [if_pos h, if_pos (by omega)]
    · rw [if_neg h, if_neg (by omega)]
theorem Jr.keepT {A : Nat} {w w' : World} {vj : Value} {J : List Jb} (h : Jr A w vj J) (hk : ∀ (g : Nat) cs (t : TypeId), w.heap[g]? = some (Obj.cells cs t (0, 0)) → t = 84 ∨ t = 9 → w'.heap[g]? = w.heap[g]?) : Jr A w' vj J := by
  have hb : ∀ {n0 n sz : Nat} {e : TypeId} {v : Value} {xs : List Value}, w.ownsRow n0 e sz v n xs → e = 84 ∨ e = 9 → ∀ g, v.ownBlock = some g → w'.heap[g]? = w.heap[g]? := by
    intro n0 n sz e v xs ho he g hg
    rcases ho.2 with ⟨rfl, _⟩ | ⟨g', cap, cur, rfl, _, hg', _⟩
    · simp [Value.ownBlock] at hg
    · simp only [Value.ownBlock, Option.some.injEq] at hg
      subst hg
      exact hk _ _ _ hg' he
  exact ⟨own_keep h.row (hb h.row (.inl rfl)), fun j hj => own_keep (h.lg j hj) (hb (h.lg j hj) (.inr rfl))⟩
theorem rcs_take {L : List Rr} {k : Nat} (h : k < L.length) : Q.rcs (L.take (k + 1)) = Q.rcs (L.take k) ++ Q.rcs [L[k]] := by
  rw [← List.take_append_getElem h]
  generalize L.take k = A
  induction A with
  | nil => rfl
  | cons a A ih => simp only [List.cons_append, Q.rcs] at ih ⊢; rw [ih, List.append_assoc]
set_option maxHeartbeats 2000000 in
set_option maxRecDepth 20000 in
theorem keep_any {A : Nat} {w : World} {m : Int} {s : Sx} {vj : Value} {J : List Jb} (hJ : Jr A w vj J) (hA : A ≤ w.heap.size) (hJn : J.length = s.L.length) (hJv : Jv s J s.L.length) (hW : Wf m s) (hz : Pz s) :
    Calls Tryz.prog 26 #[.int .i64 m, .agg #[.int .i64 s.res, vj]] w fun e w' => ∃ kb qb v T, e = .returned (.tuple #[.pointer (some ⟨kb, 0, none⟩), .bool true]) ∧ Kp (fun g => A ≤ g) A w' kb qb v T m s ∧ Below w.heap.size w w' := by
  obtain ⟨i0, hi0, hz0, hz1, hz2⟩ := info_parts Q.Tryz.infoR
  obtain ⟨pj, cj, hvj⟩ := own_slice hJ.row
  obtain ⟨n, hn⟩ : ∃ n, s.L.length = n := ⟨_, rfl⟩
  rw [hJn, hn] at hvj
  subst hvj
  have hn8 : n ≤ 8 := by have := hW.ok.len; omega
  have hs0 := World.size_alloc w (.cells #[.int .i64 s.res, .slice pj n cj] 45)
  have hs1 := World.size_alloc (w.alloc (.cells #[.int .i64 s.res, .slice pj n cj] 45)) (.cells #[.pointer none, .int .i64 s.res, .string ⟨#[]⟩, .slice none 0 0, .string ⟨#[]⟩, .slice none 0 0, .string ⟨#[]⟩, .slice none 0 0, .string ⟨#[]⟩, .slice none 0 0, .string ⟨#[]⟩, .slice none 0 0, .string ⟨#[]⟩, .slice none 0 0, .string ⟨#[]⟩, .slice none 0 0, .string ⟨#[]⟩, .slice none 0 0] 57)
  have hn0 := heap_alloc_new w (.cells #[.int .i64 s.res, .slice pj n cj] 45)
  have hb1 := below_alloc (w.alloc (.cells #[.int .i64 s.res, .slice pj n cj] 45)) (.cells #[.pointer none, .int .i64 s.res, .string ⟨#[]⟩, .slice none 0 0, .string ⟨#[]⟩, .slice none 0 0, .string ⟨#[]⟩, .slice none 0 0, .string ⟨#[]⟩, .slice none 0 0, .string ⟨#[]⟩, .slice none 0 0, .string ⟨#[]⟩, .slice none 0 0, .string ⟨#[]⟩, .slice none 0 0, .string ⟨#[]⟩, .slice none 0 0] 57)
  have hn1 := heap_alloc_new (w.alloc (.cells #[.int .i64 s.res, .slice pj n cj] 45)) (.cells #[.pointer none, .int .i64 s.res, .string ⟨#[]⟩, .slice none 0 0, .string ⟨#[]⟩, .slice none 0 0, .string ⟨#[]⟩, .slice none 0 0, .string ⟨#[]⟩, .slice none 0 0, .string ⟨#[]⟩, .slice none 0 0, .string ⟨#[]⟩, .slice none 0 0, .string ⟨#[]⟩, .slice none 0 0, .string ⟨#[]⟩, .slice none 0 0] 57)
  rw [hs0] at hn1
  have hBB : Below w.heap.size w ((w.alloc (.cells #[.int .i64 s.res, .slice pj n cj] 45)).alloc (.cells #[.pointer none, .int .i64 s.res, .string ⟨#[]⟩, .slice none 0 0, .string ⟨#[]⟩, .slice none 0 0, .string ⟨#[]⟩, .slice none 0 0, .string ⟨#[]⟩, .slice none 0 0, .string ⟨#[]⟩, .slice none 0 0, .string ⟨#[]⟩, .slice none 0 0, .string ⟨#[]⟩, .slice none 0 0, .string ⟨#[]⟩, .slice none 0 0] 57)) := ((Below.refl _ w).alloc (Nat.le_refl _) _).alloc (by omega) _
  have HV0 := hide ((hb1.block _ (by omega)).trans hn0)
  have HK0 : Hid (((w.alloc (.cells #[.int .i64 s.res, .slice pj n cj] 45)).alloc (.cells #[.pointer none, .int .i64 s.res, .string ⟨#[]⟩, .slice none 0 0, .string ⟨#[]⟩, .slice none 0 0, .string ⟨#[]⟩, .slice none 0 0, .string ⟨#[]⟩, .slice none 0 0, .string ⟨#[]⟩, .slice none 0 0, .string ⟨#[]⟩, .slice none 0 0, .string ⟨#[]⟩, .slice none 0 0, .string ⟨#[]⟩, .slice none 0 0] 57)).heap[w.heap.size + 1]? = some (.cells (kcn s.res (pzk s 0) (tzk J 0)) 57 (0, 0))) := hide hn1
  have HB0 := hide hBB
  have HJ0 := hide (hJ.below hBB)
  have HW := hide hW
  have HZ := hide hz
  have HJv := hide hJv
  have HJn := hide hJn
  have HNn := hide hn
  have HA := hide hA
  have y0 : (w.alloc (.cells #[.int .i64 s.res, .slice pj n cj] 45)).cell? ⟨w.heap.size, 0, none⟩ = some (.int .i64 s.res) := by rw [World.cell?, hn0]; rfl
  have y1 : ((w.alloc (.cells #[.int .i64 s.res, .slice pj n cj] 45)).alloc (.cells #[.pointer none, .int .i64 s.res, .string ⟨#[]⟩, .slice none 0 0, .string ⟨#[]⟩, .slice none 0 0, .string ⟨#[]⟩, .slice none 0 0, .string ⟨#[]⟩, .slice none 0 0, .string ⟨#[]⟩, .slice none 0 0, .string ⟨#[]⟩, .slice none 0 0, .string ⟨#[]⟩, .slice none 0 0, .string ⟨#[]⟩, .slice none 0 0] 57)).cell? ⟨w.heap.size, 1, none⟩ = some (.slice pj n cj) := by simp [World.cell?, HV0.out]
  clear hJ hJn hJv hW hz hs0 hs1 hn0 hb1 hn1 hBB hn hA
  go_enter Tryz.func26, Tryz.ntmps26
  go_upto_region 3 with fail
  generalize (w.alloc _).alloc _ = W0 at *
  clear y0
  go_wp2_with fail
  go_loopw [7, 19] (fun u7 u19 wr => ∃ (k : Nat) (pq : Option Addr) (cq : Nat), u7 = .slice pq k cq ∧ u19 = .int .i64 (k : Int) ∧ k ≤ n ∧ Hid (wr.ownsRow w.heap.size 82 8 (.slice pq k cq) k (Q.rcs (s.L.take k))) ∧ Hid (wr.heap[w.heap.size + 1]? = some (.cells (kcn s.res (pzk s k) (tzk J k)) 57 (0, 0))) ∧ Hid (wr.heap[w.heap.size]? = some (.cells #[.int .i64 s.res, .slice pj n cj] 45 (0, 0))) ∧ Hid (Jr A wr (.slice pj n cj) J) ∧ Hid (Below w.heap.size w wr)) (fun _ u19 _ => n - (intOf u19).toNat)
  case atStart => exact ⟨0, none, 0, rfl, rfl, Nat.zero_le _, hide ⟨rfl, .inl ⟨rfl, rfl⟩⟩, HK0, HV0, HJ0, HB0⟩
  case round =>
    clear HK0 HV0 HJ0 HB0 y1
    obtain ⟨k, pq, cq, rfl, rfl, hk, HO, HK, HV, HJ, HB⟩ := hrel
    by_cases hkn : k < n
    · have hki : (k : Int) < (n : Int) := by omega
      have hkL : k < s.L.length := by rw [HNn.out]; exact hkn
      have hkJ : k < J.length := by rw [HJn.out]; exact hkL
      rcases HJ.out.row.2 with ⟨h1, h2⟩ | ⟨g, cap1, cur1, h1, _, hgc, _⟩
      · have := HJn.out; omega
      simp only [Value.slice.injEq] at h1
      obtain ⟨rfl, -, rfl⟩ := h1
      obtain ⟨t, ht⟩ := HJv.out k hkL
      rw [List.getElem?_eq_getElem hkJ, Option.some.injEq] at ht
      have hm1 := HJ.out.lg J[k] (List.getElem_mem hkJ)
      have hc1 : ∀ i u, i < 10 → (J[k]).cs[i]? = some u → wr.cell? ⟨g, k * 10 + i, none⟩ = some u := fun i u hi hu => by
        have h3 := HJ.out.row.cells (g := g) rfl (k * 10 + i) u (by rw [jcs_get J k i hkJ hi]; exact hu)
        rw [Addr.add_lit, Nat.zero_add] at h3
        exact h3
      have HTs := hide (tzk_step hkJ)
      have HPs := hide (pzk_step s k)
      have HRs := hide (rcs_take hkL)
      have hrz := HW.out.rz k hkL
      have hbd := HW.out.bd k hkL
      have hfr := HW.out.fr k hkL
      have hpg := HW.out.pg k hkL
      have er : s.L.getD k rr0 = s.L[k] := by rw [List.getD_eq_getElem?_getD, List.getElem?_eq_getElem hkL]; rfl
      rw [er] at ht
      rw [ht] at hc1 hm1 HTs
      generalize s.L[k] = r at *
      obtain ⟨P, hP⟩ : ∃ P, s.pa k = P := ⟨_, rfl⟩
      rw [hP] at hc1 hm1 HPs hfr hpg
      obtain ⟨pr, lg⟩ := P
      simp only at hm1 hfr hpg HTs
      obtain ⟨tp, tc, rfl⟩ := own_slice hm1
      obtain ⟨nl, hnl⟩ : ∃ nl, lg.length = nl := ⟨_, rfl⟩
      rw [hnl] at hm1 HTs hc1
      have HMs : Hid (∀ V, Calls Tryz.prog 55 #[.agg #[.int .i64 r.job, .int .i64 r.st, .int .i64 r.att, .int .i64 r.bdg, .int .i64 r.node, .int .i64 r.life, .int .i64 r.code, .int .u64 r.bits, .string pr, .slice tp nl tc], .int .i64 s.res] V fun e w' => e = .returned (.bool true) ∧ Below V.heap.size V w') := hide fun V => maystand_any hbd hpg (fun h0 => by rw [← hnl, hfr h0]; rfl) hrz.att.1
      have q0 : wr.cell? ⟨g, k * 10, none⟩ = some (.int .i64 r.job) := hc1 0 _ (by decide) rfl
      have q1 : wr.cell? ⟨g, k * 10 + 1, none⟩ = some (.int .i64 r.st) := hc1 1 _ (by decide) rfl
      have q2 : wr.cell? ⟨g, k * 10 + 2, none⟩ = some (.int .i64 r.att) := hc1 2 _ (by decide) rfl
      have q3 : wr.cell? ⟨g, k * 10 + 3, none⟩ = some (.int .i64 r.bdg) := hc1 3 _ (by decide) rfl
      have q4 : wr.cell? ⟨g, k * 10 + 4, none⟩ = some (.int .i64 r.node) := hc1 4 _ (by decide) rfl
      have q5 : wr.cell? ⟨g, k * 10 + 5, none⟩ = some (.int .i64 r.life) := hc1 5 _ (by decide) rfl
      have q6 : wr.cell? ⟨g, k * 10 + 6, none⟩ = some (.int .i64 r.code) := hc1 6 _ (by decide) rfl
      have q7 : wr.cell? ⟨g, k * 10 + 7, none⟩ = some (.int .u64 r.bits) := hc1 7 _ (by decide) rfl
      have q8 : wr.cell? ⟨g, k * 10 + 8, none⟩ = some (.string pr) := hc1 8 _ (by decide) rfl
      have q9 : wr.cell? ⟨g, k * 10 + 9, none⟩ = some (.slice tp nl tc) := hc1 9 _ (by decide) rfl
      have hgl := lt_of_block hgc
      have v0 : (wr.alloc (.cells #[.int .i64 r.job, .int .i64 r.st, .int .i64 r.att, .int .i64 r.bdg, .int .i64 r.node, .int .i64 r.life, .int .i64 r.code, .int .u64 r.bits, .string pr, .slice tp nl tc] 84)).cell? ⟨w.heap.size, 0, none⟩ = some (.int .i64 s.res) := Lib.cell?_alloc_some _ (by simp [World.cell?, HV.out])
      have hKX := lt_of_block HK.out
      have hbp := below_alloc wr (.cells #[.int .i64 r.job, .int .i64 r.st, .int .i64 r.att, .int .i64 r.bdg, .int .i64 r.node, .int .i64 r.life, .int .i64 r.code, .int .u64 r.bits, .string pr, .slice tp nl tc] 84)
      have HPn := hide (heap_alloc_new wr (.cells #[.int .i64 r.job, .int .i64 r.st, .int .i64 r.att, .int .i64 r.bdg, .int .i64 r.node, .int .i64 r.life, .int .i64 r.code, .int .u64 r.bits, .string pr, .slice tp nl tc] 84))
      have HB1 := hide (HB.out.alloc HB.out.size (.cells #[.int .i64 r.job, .int .i64 r.st, .int .i64 r.att, .int .i64 r.bdg, .int .i64 r.node, .int .i64 r.life, .int .i64 r.code, .int .u64 r.bits, .string pr, .slice tp nl tc] 84))
      have HO1 := hide (own_keep HO.out fun g hg => hbp.block g (HO.out.lt g hg).2)
      have HK1 := hide ((hbp.block _ (lt_of_block HK.out)).trans HK.out)
      have HV1 := hide ((hbp.block _ (lt_of_block HV.out)).trans HV.out)
      have HJ1 := hide (HJ.out.below hbp)
      clear hc1 hm1 ht hgc hrz hbd hfr hpg hP hnl er hbp HO HK HV HJ HB
      go_upto_region 6 with fail
      obtain ⟨X, hX⟩ : ∃ X, wr.heap.size = X := ⟨_, rfl⟩
      rw [hX] at HPn hKX ⊢
      clear q0 q1 q2 q3 q4 q5 q6 q7 q8 q9 hX
      generalize wr.alloc _ = W1 at *
      obtain ⟨d0, d1, d2, d3, d4, d5, d6, d7, d8, d9, _, _, _, _, _, _, _, _, _, _⟩ := pl_of HPn.out
      go_wp2_with fail
      refine (HMs.out _).mono ?_
      rintro e W2 ⟨rfl, hb2⟩
      have hP2 := (hb2.block _ (lt_of_block HPn.out)).trans HPn.out
      have HP2 := hide hP2
      have HB2 := hide (HB1.out.trans (hb2.mono HB1.out.size))
      have HO2 := hide (own_keep HO1.out fun g hg => hb2.block g (HO1.out.lt g hg).2)
      have HK2 := hide ((hb2.block _ (lt_of_block HK1.out)).trans HK1.out)
      have HV2 := hide ((hb2.block _ (lt_of_block HV1.out)).trans HV1.out)
      have HJ2 := hide (HJ1.out.below hb2)
      clear d0 d1 d2 d3 d4 d5 d6 d7 d8 d9 v0 hb2 HB1 HO1 HK1 HV1 HJ1 HPn HMs
      obtain ⟨d0, d1, d2, d3, d4, d5, d6, d7, d8, d9, _, _, _, _, _, _, _, _, _, _⟩ := pl_of hP2
      have hbr := below_alloc W2 (.cells #[.int .i64 r.job, .int .i64 r.st, .int .i64 r.att, .int .i64 r.bdg, .int .i64 r.node, .int .i64 r.life, .int .i64 r.code, .int .u64 r.bits] 82)
      have hnew := heap_alloc_new W2 (.cells #[.int .i64 r.job, .int .i64 r.st, .int .i64 r.att, .int .i64 r.bdg, .int .i64 r.node, .int .i64 r.life, .int .i64 r.code, .int .u64 r.bits] 82)
      have HO3 := hide (own_keep HO2.out fun g hg => hbr.block g (HO2.out.lt g hg).2)
      have HK3 := hide ((hbr.block _ (lt_of_block HK2.out)).trans HK2.out)
      have HV3 := hide ((hbr.block _ (lt_of_block HV2.out)).trans HV2.out)
      have HJ3 := hide (HJ2.out.below hbr)
      have HP3 := hide ((hbr.block _ (lt_of_block hP2)).trans hP2)
      have HB3 := hide (HB2.out.alloc HB2.out.size (.cells #[.int .i64 r.job, .int .i64 r.st, .int .i64 r.att, .int .i64 r.bdg, .int .i64 r.node, .int .i64 r.life, .int .i64 r.code, .int .u64 r.bits] 82))
      have hsz3 := HB2.out.size
      clear hP2 hbr HO2 HK2 HV2 HJ2 HP2
      go_upto_region 9 with (at_builtin; refine wpList_append_own _ rfl _ _ 96 rfl w.heap.size 82 i0 rr0.val 8 64 Tryz.underlying96 hi0 hz0 hz1 hz2 rfl (by decide) (.slice pq k cq) k (Q.rcs (s.L.take k)) rfl HO3.out ⟨W2.heap.size, 0, none⟩ 1 1 (Q.rcs [r]) rfl rfl (fun j u hu => by rw [Addr.add_lit, Nat.zero_add]; simp only [World.cell?, hnew]; simp only [Q.rcs, Rr.cs, List.append_nil] at hu; simpa using hu) (Q.rcs_one_cell [r]) (by unfold maxLen; omega) (by omega) (by rw [World.size_alloc]; omega) ?_; intro v4 W4 hown hgrow _; obtain ⟨p4, c4, rfl⟩ := own_slice hown)
      have hnb : ∀ (g : Nat) (t : TypeId) cs, t ≠ 82 → (W2.alloc (.cells #[.int .i64 r.job, .int .i64 r.st, .int .i64 r.att, .int .i64 r.bdg, .int .i64 r.node, .int .i64 r.life, .int .i64 r.code, .int .u64 r.bits] 82)).heap[g]? = some (Obj.cells cs t (0, 0)) → W4.heap[g]? = (W2.alloc (.cells #[.int .i64 r.job, .int .i64 r.st, .int .i64 r.att, .int .i64 r.bdg, .int .i64 r.node, .int .i64 r.life, .int .i64 r.code, .int .u64 r.bits] 82)).heap[g]? := fun g t cs ht h => hgrow.block g (lt_of_block h) (fun e => own_ty HO3.out h ht e.symm)
      have hK4 := (hnb _ _ _ (by decide) HK3.out).trans HK3.out
      have hP4 := (hnb _ _ _ (by decide) HP3.out).trans HP3.out
      have HV4 := hide ((hnb _ _ _ (by decide) HV3.out).trans HV3.out)
      have HJ4 : Hid (Jr A W4 (.slice (some ⟨g, 0, none⟩) n cj) J) := hide (HJ3.out.keepT fun g cs t h ht => hnb g t cs (by rcases ht with rfl | rfl <;> decide) h)
      have HB4 := hide (HB3.out.grown hgrow (by rw [World.size_alloc]; omega) (fun g hg => (HO3.out.lt g hg).1))
      have HO4 := hide hown
      have HK4 := hide hK4
      clear hnb hown hgrow HK3 HP3 HV3 HJ3 HB3 HO3 hnew d0 d1 d2 d3 d4 d5 d6 d7 d8 d9
      obtain ⟨d0, d1, d2, d3, d4, d5, d6, d7, d8, d9, _, _, _, _, _, _, _, _, _, _⟩ := pl_of hP4
      have hk8 : k < 8 := by omega
      have hk8i : (k : Int) < 8 := by omega
      have w0 : W4.cell? ⟨w.heap.size + 1, 2 + k * 2, none⟩ = some (.string (pzk s k k).pr) := by simp only [World.cell?, hK4]; exact kcn_pr _ _ _ hk8
      have w1 : W4.cell? ⟨w.heap.size + 1, 2 + k * 2 + 1, none⟩ = some (tzk J k k) := by simp only [World.cell?, hK4]; exact kcn_lg _ _ _ hk8
      have ht0 : tzk J k k = .slice none 0 0 := by unfold tzk; rw [if_neg (Nat.lt_irrefl _)]
      rw [ht0] at w1
      have z0 : W4.frozen? ⟨w.heap.size + 1, 2 + k * 2, none⟩ = false := by simp [World.frozen?, hK4]
      have z1 : W4.frozen? ⟨w.heap.size + 1, 2 + k * 2 + 1, none⟩ = false := by simp [World.frozen?, hK4]
      have hKl := lt_of_block hK4
      generalize (pzk s k k).pr = opr at w0
      clear hK4 hP4 ht0
      go_region
      all_goals
        have HKf : Hid (((W4.setCell ⟨w.heap.size + 1, 2 + k * 2, none⟩ (.string pr)).setCell ⟨w.heap.size + 1, 2 + k * 2 + 1, none⟩ (.slice tp nl tc)).heap[w.heap.size + 1]? = some (.cells (kcn s.res (pzk s (k + 1)) (tzk J (k + 1))) 57 (0, 0))) := hide (by rw [cells_set (cells_set HK4.out _ _), kcn_set _ _ _ hk8 ⟨pr, lg⟩, HPs.out, HTs.out])
        have hne : ∀ g, g ≠ w.heap.size + 1 → ((W4.setCell ⟨w.heap.size + 1, 2 + k * 2, none⟩ (.string pr)).setCell ⟨w.heap.size + 1, 2 + k * 2 + 1, none⟩ (.slice tp nl tc)).heap[g]? = W4.heap[g]? := fun g hg => (Below.heap_setCell _ ⟨w.heap.size + 1, 2 + k * 2 + 1, none⟩ _ g hg).trans (Below.heap_setCell _ ⟨w.heap.size + 1, 2 + k * 2, none⟩ _ g hg)
        have HVf := hide ((hne w.heap.size (by omega)).trans HV4.out)
        have HJf : Hid (Jr A ((W4.setCell ⟨w.heap.size + 1, 2 + k * 2, none⟩ (.string pr)).setCell ⟨w.heap.size + 1, 2 + k * 2 + 1, none⟩ (.slice tp nl tc)) (.slice (some ⟨g, 0, none⟩) n cj) J) := hide (HJ4.out.keepT fun g cs t h ht => hne g fun e => by rw [e, HK4.out] at h; simp only [Option.some.injEq, Obj.cells.injEq] at h; rcases ht with rfl | rfl <;> exact absurd h.2.1 (by decide))
        have HBf := hide ((HB4.out.setCell (p := ⟨w.heap.size + 1, 2 + k * 2, none⟩) (Nat.le_succ _) (.string pr)).setCell (p := ⟨w.heap.size + 1, 2 + k * 2 + 1, none⟩) (Nat.le_succ _) (.slice tp nl tc))
        have HOf : Hid (World.ownsRow ((W4.setCell ⟨w.heap.size + 1, 2 + k * 2, none⟩ (.string pr)).setCell ⟨w.heap.size + 1, 2 + k * 2 + 1, none⟩ (.slice tp nl tc)) w.heap.size 82 8 (.slice p4 (k + 1) c4) (k + 1) (Q.rcs (s.L.take (k + 1)))) := hide (by rw [HRs.out]; exact own_keep HO4.out fun g hg => hne g fun e => own_ty HO4.out HK4.out (by decide) (by rw [← e]; exact hg))
        clear hne HK4 HV4 HJ4 HB4 HO4
        go_wp2_with fail
        go_roundw
        case rel => exact ⟨k + 1, p4, c4, rfl, by go_num, by omega, hide (own_keep HOf.out fun _ _ => rfl), HKf, HVf, hide (jr_drew HJf.out), hide HBf.out.drew⟩
        case measure => simp only [intOf]; omega
    · obtain rfl : n = k := by omega
      have hki : ¬ ((n : Int) < (n : Int)) := by omega
      have hO : wr.ownsRow w.heap.size 82 8 (.slice pq s.L.length cq) s.L.length (Q.rcs s.L) := by
        have h9 := HO.out
        rw [← HNn.out, List.take_length] at h9
        exact h9
      obtain ⟨ab, hRs, _, _⟩ := Q.Rs.own hO
      have HLo := hide (Q.load_any (x := m) (cap := cq) hRs)
      rw [HNn.out] at HLo
      clear hO hRs HO
      go_wp2_with fail
      refine HLo.out.mono ?_
      rintro e W2 (⟨h1, _, _⟩ | ⟨_, h1, _, _⟩ | ⟨qb, v, hok, rfl, hq, hb2⟩)
      · exact absurd ⟨HW.out.ok.m1, HW.out.ok.m8⟩ h1
      · exact absurd HW.out.ok.toROk h1
      have hK2 := (hb2.block _ (lt_of_block HK.out)).trans HK.out
      have HK2 := hide hK2
      have HJ2 := hide (HJ.out.below hb2)
      have HB2 := hide (HB.out.trans (hb2.mono HB.out.size))
      have hsz := HB.out.size
      have HQ := hide hq
      have k0 : W2.cell? ⟨w.heap.size + 1, 0, none⟩ = some (.pointer none) := by simp [World.cell?, hK2]
      have z0 : W2.frozen? ⟨w.heap.size + 1, 0, none⟩ = false := by simp [World.frozen?, hK2]
      have hKl := lt_of_block hK2
      have hKw : w.heap.size + 1 < wr.heap.size := lt_of_block HK.out
      clear hK2 hb2 hq HK HV HJ HB HLo
      go_wp2_with fail
      go_ret2
      refine ⟨w.heap.size + 1, qb, v, tzk J n, rfl, ?_, HB2.out.setCell (p := ⟨w.heap.size + 1, 0, none⟩) (Nat.le_succ _) _⟩
      have hne : ∀ g, g ≠ w.heap.size + 1 → (W2.setCell ⟨w.heap.size + 1, 0, none⟩ (.pointer (some ⟨qb, 0, none⟩))).heap[g]? = W2.heap[g]? := fun g hg => Below.heap_setCell _ ⟨w.heap.size + 1, 0, none⟩ _ g hg
      have hft : ∀ g, Ft qb v g → wr.heap.size ≤ g := fun g hg => (HQ.out.ftlt g hg).1
      have hAw := HA.out
      have hlg : ∀ i, i < n → W2.ownsRow A 9 1 (tzk J n i) (s.pa i).lg.length (tcs (s.pa i).lg) := fun i hi => by
        have hiL : i < s.L.length := by rw [HNn.out]; exact hi
        have hiJ : i < J.length := by rw [HJn.out]; exact hiL
        obtain ⟨t, ht⟩ := HJv.out i hiL
        have h3 := HJ2.out.lg J[i] (List.getElem_mem hiJ)
        have h4 : tzk J n i = (J[i]).t := by unfold tzk; rw [if_pos hi, List.getD_eq_getElem?_getD, List.getElem?_map, List.getElem?_eq_getElem hiJ]; rfl
        rw [List.getElem?_eq_getElem hiJ, Option.some.injEq] at ht
        rw [h4]
        rw [ht] at h3 ⊢
        exact h3
      have hpz : ∀ i, (pzk s n i) = s.pa i := fun i => by
        unfold pzk
        split
        · rfl
        · exact (HZ.out i (by rw [HNn.out]; omega)).symm
      have hT : ∀ i g, (tzk J n i).ownBlock = some g → i < n ∧ A ≤ g ∧ g < W2.heap.size ∧ ∃ cs, W2.heap[g]? = some (Obj.cells cs 9 (0, 0)) := fun i g hg => by
        by_cases hi : i < n
        · have h3 := hlg i hi
          refine ⟨hi, (h3.lt g hg).1, (h3.lt g hg).2, ?_⟩
          rcases h3.2 with ⟨h4, _⟩ | ⟨g', cap, cur, h4, _, hg', _⟩
          · rw [h4] at hg; simp [Value.ownBlock] at hg
          · rw [h4] at hg; simp only [Value.ownBlock, Option.some.injEq] at hg; subst hg; exact ⟨_, hg'⟩
        · unfold tzk at hg; rw [if_neg hi] at hg; simp [Value.ownBlock] at hg
      have hnK : ∀ i g, (tzk J n i).ownBlock = some g → g ≠ w.heap.size + 1 := fun i g hg e => by
        obtain ⟨_, _, _, cs, hc⟩ := hT i g hg
        rw [e, HK2.out] at hc
        simp only [Option.some.injEq, Obj.cells.injEq] at hc
        exact absurd hc.2.1 (by decide)
      refine ⟨?_, Qm.weak (HQ.out.keep fun g hg => hne g (by have := hft g hg; omega)) (by omega), by omega, fun hf => by have := hft _ hf; omega, fun i hi => ?_, fun i hi g hg => ?_, fun i hi g hg => ⟨hnK i g hg, fun hf => ?_, (hT i g hg).2.1⟩⟩
      · rw [cells_set HK2.out, kcs_same qb s.res (p := s.pa) (p' := pzk s n) (tzk J n) (fun i _ => by rw [hpz])]
        rfl
      · by_cases hin : i < n
        · exact tx_own (own_keep (hlg i hin) fun g hg => hne g (hnK i g hg))
        · have h5 : s.pa i = pp0 := HZ.out i (by rw [HNn.out]; omega)
          have h6 : tzk J n i = .slice none 0 0 := by unfold tzk; rw [if_neg hin]
          rw [h5, h6]; exact Tx.nil _
      · rw [Q.setCell_size]; exact (hT i g hg).2.2.1
      · obtain ⟨_, _, _, cs, hc⟩ := hT i g hg
        rcases hf with rfl | hf
        · have h7 := HQ.out.blk
          rw [h7] at hc
          simp only [Option.some.injEq, Obj.cells.injEq] at hc
          exact absurd hc.2.1 (by decide)
        · exact own_ty HQ.out.row hc (by decide) hf
set_option maxHeartbeats 1000000 in
/-- Load, of a state's bytes: that state -/
theorem load_there {w : World} {m : Int} {s : Sx} (hW : Wf m s) (hz : Pz s) :
    Calls Tryz.prog 10 #[.int .i64 m, .string ⟨(bys s).toArray⟩] w fun e w' => ∃ c, e = .returned (.tuple #[.pointer (some ⟨c, 0, none⟩), .int .i64 0]) ∧ w.heap.size ≤ c ∧ (∀ N : Nat → Prop, (∀ g, N g → g < w.heap.size ∨ g = c) → Sd N w' c m s) ∧ Below w.heap.size w w' := by
  have HNa := hide (new_any w m)
  have HW := hide hW
  have HZ := hide hz
  have HRe : Hid (∀ V : World, Calls Tryz.prog 25 #[.string ⟨(bys s).toArray⟩] V fun e w' => ∃ vj J, e = .returned (.tuple #[.agg #[.int .i64 s.res, vj], .bool true]) ∧ Jr V.heap.size w' vj J ∧ J.length = s.L.length ∧ Jv s J s.L.length ∧ Below V.heap.size V w') := hide fun V => rd_read hW
  clear hW hz
  generalize (⟨(bys s).toArray⟩ : ByteArray) = b at *
  go_enter Tryz.func10, Tryz.ntmps10
  go_wp2_with fail
  refine HNa.out.mono ?_
  rintro e w1 (⟨h1, _, _⟩ | ⟨bA, _, _, rfl, _, _, hb1⟩)
  · exact absurd ⟨HW.out.ok.m1, HW.out.ok.m8⟩ h1
  have HB1 := hide hb1
  clear hb1 HNa
  go_wp2_with fail
  refine (HRe.out _).mono ?_
  rintro e w2 ⟨vj, J, rfl, hJ, hJn, hJv, hb2⟩
  obtain ⟨pj, cj, hvj⟩ := own_slice hJ.row
  subst hvj
  have hbx := below_alloc w2 (.cells #[.int .i64 s.res, .slice pj J.length cj] 45)
  have hnx := heap_alloc_new w2 (.cells #[.int .i64 s.res, .slice pj J.length cj] 45)
  have hB2 := HB1.out.trans (hb2.mono HB1.out.size)
  have HKe := hide (keep_any (hJ.below hbx) (by rw [World.size_alloc]; have := hb2.size; omega) hJn hJv HW.out HZ.out)
  have HB2 := hide (hB2.alloc hB2.size (.cells #[.int .i64 s.res, .slice pj J.length cj] 45))
  have hsz1 := HB1.out.size
  have x0 : (w2.alloc (.cells #[.int .i64 s.res, .slice pj J.length cj] 45)).cell? ⟨w2.heap.size, 0, none⟩ = some (.int .i64 s.res) := by rw [World.cell?, hnx]; rfl
  have x1 : (w2.alloc (.cells #[.int .i64 s.res, .slice pj J.length cj] 45)).cell? ⟨w2.heap.size, 1, none⟩ = some (.slice pj J.length cj) := by rw [World.cell?, hnx]; rfl
  clear hJ hJn hJv hb2 hbx hnx HRe hB2 HB1
  go_wp2_with fail
  refine HKe.out.mono ?_
  rintro e w3 ⟨kb, qb, v, T, rfl, hK, hb3⟩
  have HK := hide hK
  have HB3 := hide (HB2.out.trans (hb3.mono HB2.out.size))
  clear hK hb3 HKe HB2 x0 x1
  go_wp2_with fail
  go_ret2
  have hk1 := HK.out
  have hsz := HB3.out.size
  have hb2 := below_alloc w3 (.cells #[.pointer (some ⟨kb, 0, none⟩)] 59)
  have hn2 := heap_alloc_new w3 (.cells #[.pointer (some ⟨kb, 0, none⟩)] 59)
  have hlow := hk1.low
  refine ⟨_, rfl, hsz, fun N' hN' => ⟨kb, qb, v, T, hn2, (hk1.below hb2).weak (Nat.zero_le _) fun i hi g hg hn hn' => ?_, fun hn => ?_, fun g hg hn => ?_⟩, HB3.out.alloc hsz _⟩
  · rcases hN' g hn' with e | e
    · omega
    · have := hk1.tb i hi g hg; omega
  · have := hk1.lt
    rcases hN' _ hn with e | e <;> omega
  · have := hk1.q.ftlt g hg
    rcases hN' _ hn with e | e <;> omega
end Go.Proofs.YtepondcflkledaaGreat.S
end
