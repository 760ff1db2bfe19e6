import Derived.Test.YtepondcflkledaaGreatMgAZ
import Derived.Test.YtepondcflkledaaGreatMgAU

section
namespace Go.Proofs.YtepondcflkledaaGreat.S
set_option maxRecDepth 20000
open Go.RowKit
open Rc (Ch)
open Q (Rr rr0 Qm Ft Mv rcs qrows_any)

theorem Tryz.infoPl : (Tryz.prog.info? 84).map (fun i => (i.zero, i.size, i.bytes)) = some (some (.agg #[.int .i64 0, .int .i64 0, .int .i64 0, .int .i64 0, .int .i64 0, .int .i64 0, .int .i64 0, .int .u64 0, .string ByteArray.empty, .slice none 0 0]), 10, 104) := by kernel_rfl
/-- a job in a view: its row, its papers, its log as it lies -/
structure Jb where
  r : Rr
  p : Pp
  t : Value
def Jb.cs (j : Jb) : List Value := (plC j.r j.p.pr j.t).toList
def jcs (l : List Jb) : List Value := l.flatMap Jb.cs
theorem jcs_len (l : List Jb) : (jcs l).length = l.length * 10 := by
  induction l with
  | nil => rfl
  | cons j l ih => simp only [jcs, List.flatMap_cons, List.length_append, List.length_cons] at ih ⊢; rw [ih]; show 10 + _ = _; omega
theorem jcs_append (l k : List Jb) : jcs (l ++ k) = jcs l ++ jcs k := by simp [jcs]
theorem jcs_one (j : Jb) : jcs [j] = j.cs := by simp [jcs]
theorem jcs_get (l : List Jb) (i k : Nat) (hi : i < l.length) (hk : k < 10) : (jcs l)[i * 10 + k]? = (l[i]).cs[k]? := by
  induction l generalizing i with
  | nil => simp at hi
  | cons j l ih =>
    have e : jcs (j :: l) = j.cs ++ jcs l := by simp [jcs]
    have h10 : j.cs.length = 10 := rfl
    rw [e]
    cases i with
    | zero => rw [List.getElem?_append_left (by omega)]; simp
    | succ i =>
      rw [List.getElem?_append_right (by omega), h10, show (i + 1) * 10 + k - 10 = i * 10 + k by omega, ih i (by simpa using hi)]
      simp
/-- what a view's row of jobs lies as -/
structure Jr (A : Nat) (w : World) (vj : Value) (J : List Jb) : Prop where
  row : w.ownsRow A 84 10 vj J.length (jcs J)
  lg : ∀ j ∈ J, w.ownsRow A 9 1 j.t j.p.lg.length (tcs j.p.lg)
theorem own_ty {w : World} {n0 n sz : Nat} {e : TypeId} {v : Value} {xs : List Value} (h : w.ownsRow n0 e sz v n xs) {X : Nat} {cs : Array Value} {ty : TypeId} (hX : w.heap[X]? = some (.cells cs ty (0, 0))) (hty : ty ≠ e) : v.ownBlock ≠ some X := by
  rcases h.2 with ⟨rfl, _⟩ | ⟨g, cap, cur, rfl, _, hg, _⟩
  · simp [Value.ownBlock]
  · intro e
    simp only [Value.ownBlock, Option.some.injEq] at e
    subst e
    rw [hg] at hX
    simp only [Option.some.injEq, Obj.cells.injEq] at hX
    exact hty hX.2.1.symm
theorem own_apart {w : World} {n0 m0 n m sz tz : Nat} {e f : TypeId} {u v : Value} {xs ys : List Value} (h : w.ownsRow n0 e sz u n xs) (k : w.ownsRow m0 f tz v m ys) (hty : e ≠ f) : ∀ g, u.ownBlock = some g → v.ownBlock ≠ some g := by
  intro g hg
  rcases h.2 with ⟨rfl, _⟩ | ⟨g', cap, cur, rfl, _, hg', _⟩
  · simp [Value.ownBlock] at hg
  · simp only [Value.ownBlock, Option.some.injEq] at hg
    subst hg
    exact own_ty k hg' hty
theorem Jr.below {A : Nat} {w w' : World} {vj : Value} {J : List Jb} (h : Jr A w vj J) (hb : Below w.heap.size w w') : Jr A w' vj J :=
  ⟨own_keep h.row fun g hg => hb.block g (h.row.lt g hg).2, fun j hj => own_keep (h.lg j hj) fun g hg => hb.block g ((h.lg j hj).lt g hg).2⟩
theorem jr_drew {A : Nat} {w : World} {vj : Value} {J : List Jb} (h : Jr A w vj J) : Jr A w.drew vj J := ⟨own_keep h.row fun _ _ => rfl, fun j hj => own_keep (h.lg j hj) fun _ _ => rfl⟩
/-- one more, and the variable that holds the row -/
theorem Jr.push {A : Nat} {w w' : World} {vj vj' : Value} {J : List Jb} {j : Jb} {X : Nat} {r : Value} {x : Value} (h : Jr A w vj J) (hj : w.ownsRow A 9 1 j.t j.p.lg.length (tcs j.p.lg)) (hX : w.heap[X]? = some (.cells #[r, x] 45 (0, 0)))
    (ho : w'.ownsRow A 84 10 vj' (J.length + 1) (jcs J ++ j.cs)) (hg : w.grownBy w' vj.ownBlock) :
    Jr A (w'.setCell ⟨X, 1, none⟩ vj') vj' (J ++ [j]) ∧ (w'.setCell ⟨X, 1, none⟩ vj').heap[X]? = some (.cells #[r, vj'] 45 (0, 0)) ∧ w'.cell? ⟨X, 1, none⟩ = some x ∧ w'.frozen? ⟨X, 1, none⟩ = false ∧ X < w'.heap.size := by
  have hX1 : w'.heap[X]? = some (.cells #[r, x] 45 (0, 0)) := (hg.block X (lt_of_block hX) (fun e => own_ty h.row hX (by decide) e.symm)).trans hX
  have hne : ∀ g, g ≠ X → (w'.setCell ⟨X, 1, none⟩ vj').heap[g]? = w'.heap[g]? := fun g hg => Below.heap_setCell _ ⟨X, 1, none⟩ _ g hg
  have hlgs : ∀ q : Jb, w.ownsRow A 9 1 q.t q.p.lg.length (tcs q.p.lg) → (w'.setCell ⟨X, 1, none⟩ vj').ownsRow A 9 1 q.t q.p.lg.length (tcs q.p.lg) := fun q hq => own_keep hq fun g hg' => (hne g (fun e => own_ty hq hX (by decide) (e ▸ hg'))).trans (hg.block g (hq.lt g hg').2 (fun e => own_apart hq h.row (by decide) g hg' e.symm))
  refine ⟨⟨?_, fun q hq => ?_⟩, by rw [cells_set hX1]; rfl, by simp [World.cell?, hX1], by simp [World.frozen?, hX1], lt_of_block hX1⟩
  · rw [jcs_append, jcs_one, List.length_append]
    exact own_keep ho fun g hg' => hne g (fun e => own_ty ho hX1 (by decide) (e ▸ hg'))
  · rcases List.mem_append.1 hq with hq | hq
    · exact hlgs q (h.lg q hq)
    · obtain rfl : q = j := by simpa using hq
      exact hlgs q hj
/-- the jobs of a state -/
def Jv (s : Sx) (J : List Jb) (k : Nat) : Prop := ∀ j, j < k → ∃ t, J[j]? = some ⟨s.L.getD j rr0, s.pa j, t⟩
theorem Jv.push {s : Sx} {J : List Jb} {k : Nat} (h : Jv s J k) (hk : J.length = k) {r : Rr} {P : Pp} (hr : s.L.getD k rr0 = r) (hp : s.pa k = P) (t : Value) : Jv s (J ++ [⟨r, P, t⟩]) (k + 1) := by
  intro j hj
  by_cases e : j < k
  · obtain ⟨t', h'⟩ := h j e
    exact ⟨t', by rw [List.getElem?_append_left (by omega)]; exact h'⟩
  · obtain rfl : j = k := by omega
    exact ⟨t, by rw [List.getElem?_append_right (by omega), hk, hr, hp]; simp⟩
set_option maxHeartbeats 4000000 in
set_option maxRecDepth 20000 in
theorem view_any {N : Nat → Prop} {w : World} {b : Nat} {m : Int} {s : Sx} (h : Sd N w b m s) (hW : Wf m s) :
    Calls Tryz.prog 15 #[.pointer (some ⟨b, 0, none⟩)] w fun e w' => ∃ vj J, e = .returned (.agg #[.int .i64 s.res, vj]) ∧ Jr w.heap.size w' vj J ∧ J.length = s.L.length ∧ Jv s J s.L.length ∧ Below w.heap.size w w' := by
  obtain ⟨iP, hiP, zP0, zP1, zP2⟩ := info_parts Tryz.infoPl
  obtain ⟨kb, qb, v, T, hb, hK, hnk, hnf⟩ := h.ex
  have hbw := lt_of_block hb
  have hs0 := World.size_alloc w (.cells #[.int .i64 0, .slice none 0 0] 45)
  have hs1 := World.size_alloc (w.alloc (.cells #[.int .i64 0, .slice none 0 0] 45)) (.cells #[.int .i64 s.res, .slice none 0 0] 45)
  have hB0 : Below w.heap.size w ((w.alloc (.cells #[.int .i64 0, .slice none 0 0] 45)).alloc (.cells #[.int .i64 s.res, .slice none 0 0] 45)) := ((Below.refl _ w).alloc (Nat.le_refl _) _).alloc (by omega) _
  have hX0 := heap_alloc_new (w.alloc (.cells #[.int .i64 0, .slice none 0 0] 45)) (.cells #[.int .i64 s.res, .slice none 0 0] 45)
  rw [hs0] at hX0
  have hA0 : ((w.alloc (.cells #[.int .i64 0, .slice none 0 0] 45)).alloc (.cells #[.int .i64 s.res, .slice none 0 0] 45)).heap[w.heap.size]? = some (.cells #[.int .i64 0, .slice none 0 0] 45 (0, 0)) := ((below_alloc (w.alloc (.cells #[.int .i64 0, .slice none 0 0] 45)) _).block _ (by omega)).trans (heap_alloc_new w _)
  have HQ := hide (qrows_any (hK.below hB0).q hW.ok.len)
  have c0 : w.cell? ⟨b, 0, none⟩ = some (.pointer (some ⟨kb, 0, none⟩)) := by simp [World.cell?, hb]
  have c0' : (w.alloc (.cells #[.int .i64 0, .slice none 0 0] 45)).cell? ⟨b, 0, none⟩ = some (.pointer (some ⟨kb, 0, none⟩)) := Lib.cell?_alloc_some _ c0
  have c1' : (w.alloc (.cells #[.int .i64 0, .slice none 0 0] 45)).cell? ⟨kb, 1, none⟩ = some (.int .i64 s.res) := Lib.cell?_alloc_some _ hK.c1
  have c2 : ((w.alloc (.cells #[.int .i64 0, .slice none 0 0] 45)).alloc (.cells #[.int .i64 s.res, .slice none 0 0] 45)).cell? ⟨b, 0, none⟩ = some (.pointer (some ⟨kb, 0, none⟩)) := Lib.cell?_alloc_some _ c0'
  have c3 : ((w.alloc (.cells #[.int .i64 0, .slice none 0 0] 45)).alloc (.cells #[.int .i64 s.res, .slice none 0 0] 45)).cell? ⟨kb, 0, none⟩ = some (.pointer (some ⟨qb, 0, none⟩)) := Lib.cell?_alloc_some _ (Lib.cell?_alloc_some _ hK.c0)
  have HK := hide hK
  have HBb := hide hb
  have HW := hide hW
  have hl8 := hW.ok.len
  have hkb := hK.lt
  clear h hK hnk hnf hb hW
  go_enter Tryz.func15, Tryz.ntmps15
  go_wp2_with fail
  refine HQ.out.mono ?_
  rintro e w1 ⟨rfl, ho, hb1⟩
  have HA1 := hide ((hb1.block _ (by omega)).trans hA0)
  have HX1 := hide ((hb1.block _ (by omega)).trans hX0)
  have HB1 := hide (hB0.trans (hb1.mono (by omega)))
  have hsW : ((w.alloc (.cells #[.int .i64 0, .slice none 0 0] 45)).alloc (.cells #[.int .i64 s.res, .slice none 0 0] 45)).heap.size = w.heap.size + 1 + 1 := by omega
  obtain ⟨g, hg⟩ : ∃ g, ((w.alloc (.cells #[.int .i64 0, .slice none 0 0] 45)).alloc (.cells #[.int .i64 s.res, .slice none 0 0] 45)).heap.size = g := ⟨_, rfl⟩
  rw [hg] at ho ⊢
  have hgw : w.heap.size + 1 < g := by omega
  rcases ho.2 with ⟨h1, _⟩ | ⟨g', cap', cur, h1, _, hgc, _, _, hcz, hct⟩
  · cases h1
  simp only [Value.slice.injEq, Option.some.injEq, Addr.mk.injEq, and_true] at h1
  obtain ⟨rfl, h1b⟩ := h1
  have HG1 := hide hgc
  have hcz8 : cur.size = s.L.length * 8 := by rw [hcz, ← h1b.2]
  have HCu : Hid (∀ k (hk : k < s.L.length) i, i < 8 → cur[k * 8 + i]? = (s.L[k]).cs[i]?) := hide fun k hk i hi => by
    have e1 : cur.toList = rcs s.L := by rw [← hct, List.take_of_length_le (by rw [Array.length_toList, hcz8]; omega)]
    rw [← Q.rcs_get s.L k i hk hi, ← e1, Array.getElem?_toList]
  have hJ0 : Jr w.heap.size w1 (.slice none 0 0) [] := ⟨World.ownsRow_nil _ _ _ _, fun j hj => by cases hj⟩
  have HJ0 := hide hJ0
  clear ho hb1 hgc hct hcz h1b hJ0 HQ c0 c0' c1' c2 c3 hB0 hX0 hA0 hs0 hs1 hsW hg
  go_wp2_with fail
  go_loopw [23] (fun u wr => ∃ (k : Nat) (vj : Value) (J : List Jb), u = .int .i64 (k : Int) ∧ k ≤ s.L.length ∧ J.length = k ∧ Jv s J k ∧ Hid (wr.heap[w.heap.size + 1]? = some (.cells #[.int .i64 s.res, vj] 45 (0, 0))) ∧ Hid (Jr w.heap.size wr vj J) ∧ Hid (wr.heap[g]? = some (.cells cur 82 (0, 0))) ∧ Hid (wr.heap[w.heap.size]? = some (.cells #[.int .i64 0, .slice none 0 0] 45 (0, 0))) ∧ Hid (Below w.heap.size w wr)) (fun u _ => s.L.length - (intOf u).toNat)
  case atStart => exact ⟨0, .slice none 0 0, [], rfl, Nat.zero_le _, rfl, fun j hj => absurd hj (Nat.not_lt_zero _), HX1, HJ0, HG1, HA1, HB1⟩
  case round =>
    obtain ⟨k, vj, J, rfl, hk, hJk, hJv, HXr, HJr, HGr, HZr, HBr⟩ := hrel
    clear HJ0 HX1 HG1 HA1
    by_cases hkl : k < s.L.length
    · obtain ⟨r, hr⟩ : ∃ r, s.L[k] = r := ⟨_, rfl⟩
      have hcu := HCu.out k hkl
      rw [hr] at hcu
      have hjob : r.job = (k : Int) + 1 := by rw [← hr]; exact HW.out.ok.job k hkl
      have q0 : wr.cell? ⟨g, k * 8, none⟩ = some (.int .i64 r.job) := by simp only [World.cell?, HGr.out]; exact hcu 0 (by decide)
      have q1 : wr.cell? ⟨g, k * 8 + 1, none⟩ = some (.int .i64 r.st) := by simp only [World.cell?, HGr.out]; exact hcu 1 (by decide)
      have q2 : wr.cell? ⟨g, k * 8 + 2, none⟩ = some (.int .i64 r.att) := by simp only [World.cell?, HGr.out]; exact hcu 2 (by decide)
      have q3 : wr.cell? ⟨g, k * 8 + 3, none⟩ = some (.int .i64 r.bdg) := by simp only [World.cell?, HGr.out]; exact hcu 3 (by decide)
      have q4 : wr.cell? ⟨g, k * 8 + 4, none⟩ = some (.int .i64 r.node) := by simp only [World.cell?, HGr.out]; exact hcu 4 (by decide)
      have q5 : wr.cell? ⟨g, k * 8 + 5, none⟩ = some (.int .i64 r.life) := by simp only [World.cell?, HGr.out]; exact hcu 5 (by decide)
      have q6 : wr.cell? ⟨g, k * 8 + 6, none⟩ = some (.int .i64 r.code) := by simp only [World.cell?, HGr.out]; exact hcu 6 (by decide)
      have q7 : wr.cell? ⟨g, k * 8 + 7, none⟩ = some (.int .u64 r.bits) := by simp only [World.cell?, HGr.out]; exact hcu 7 (by decide)
      have hsz := HBr.out.size
      have hk8 : k < 8 := by omega
      have hba := below_alloc wr r.obj
      have hKr : Kp (fun g => ¬ N g) 0 (wr.alloc r.obj).drew kb qb v T m s := (HK.out.keep (Nat.le_trans hsz hba.size) fun g' hg' => (hba.block g' (Nat.lt_of_lt_of_le (HK.out.all_lt g' hg') hsz)).trans (HBr.out.block g' (HK.out.all_lt g' hg')))
      have HPl := hide (kplace_any hKr hk8 hjob (HW.out.pp k).2.1)
      have HSb : Hid ((wr.alloc r.obj).heap[b]? = some (.cells #[.pointer (some ⟨kb, 0, none⟩)] 59 (0, 0))) := hide ((hba.block b (Nat.lt_of_lt_of_le hbw hsz)).trans ((HBr.out.block b hbw).trans HBb.out))
      have HSy0 := heap_alloc_new wr r.obj
      obtain ⟨Y, hY⟩ : ∃ Y, wr.heap.size = Y := ⟨_, rfl⟩
      rw [hY] at HSy0
      have HSy := hide HSy0
      have HX5 := hide ((hba.block _ (lt_of_block HXr.out)).trans HXr.out)
      have HJ5 := hide (HJr.out.below hba)
      have HG5 := hide ((hba.block _ (lt_of_block HGr.out)).trans HGr.out)
      have HZ5 := hide ((hba.block _ (lt_of_block HZr.out)).trans HZr.out)
      have HB5 : Hid (Below w.heap.size w (wr.alloc r.obj)) := hide (HBr.out.alloc hsz _)
      have hYs : (wr.alloc r.obj).heap.size = Y + 1 := by rw [← hY]; exact World.size_alloc _ _
      have hXw := lt_of_block HXr.out
      have hgw2 := lt_of_block HGr.out
      have hgl5 := lt_of_block HG5.out
      have hrd : s.L.getD k rr0 = r := by rw [List.getD_eq_getElem?_getD, List.getElem?_eq_getElem hkl, hr]; rfl
      obtain ⟨P, hP⟩ : ∃ P, s.pa k = P := ⟨_, rfl⟩
      have HSt : Hid (∀ t, Jv s (J ++ [⟨r, P, t⟩]) (k + 1)) := hide fun t => hJv.push hJk hrd hP t
      rw [hP] at HPl
      obtain ⟨pr, hpr⟩ : ∃ pr, P.pr = pr := ⟨_, rfl⟩
      have HPr := hide hpr
      rw [hpr] at HPl
      obtain ⟨nl, hnl⟩ : ∃ nl, P.lg.length = nl := ⟨_, rfl⟩
      have HLg := hide hnl
      rw [hnl] at HPl
      obtain ⟨pj, cj, hvj⟩ := own_slice HJr.out.row
      rw [hJk] at hvj
      subst hvj
      have x5 : (wr.alloc r.obj).cell? ⟨w.heap.size + 1, 1, none⟩ = some (.slice pj k cj) := by simp [World.cell?, HX5.out]
      have hki : (k : Int) < (s.L.length : Int) := by omega
      clear hr hcu hjob hKr HSy0 HJr HXr HGr HZr hJv hrd hP hpr HK HBb HW HCu hba
      rw [hY] at hsz hXw hgw2
      go_upto_region 5 with fail
      generalize wr.alloc _ = W5 at *
      have hbl : b < W5.drew.heap.size := by show b < W5.heap.size; omega
      have hYl : Y < W5.drew.heap.size := by show Y < W5.heap.size; omega
      have hXl : w.heap.size + 1 < W5.drew.heap.size := by show _ < W5.heap.size; omega
      have hgl : g < W5.drew.heap.size := hgl5
      have hZl : w.heap.size < W5.drew.heap.size := lt_of_block HZ5.out
      have hA5 : w.heap.size ≤ W5.drew.heap.size := HB5.out.size
      have HCe : Hid (∀ w' : World, (fun w' => w'.heap[b]? = some (.cells #[.pointer (some ⟨kb, 0, none⟩)] 59 (0, 0)) ∧ w'.heap[Y]? = some (.cells #[.int .i64 r.job, .int .i64 r.st, .int .i64 r.att, .int .i64 r.bdg, .int .i64 r.node, .int .i64 r.life, .int .i64 r.code, .int .u64 r.bits] 82 (0, 0))) w' → w'.cell? ⟨b, 0, none⟩ = some (.pointer (some ⟨kb, 0, none⟩)) ∧ w'.cell? ⟨Y, 0, none⟩ = some (.int .i64 r.job) ∧ w'.cell? ⟨Y, 1, none⟩ = some (.int .i64 r.st) ∧ w'.cell? ⟨Y, 2, none⟩ = some (.int .i64 r.att) ∧ w'.cell? ⟨Y, 3, none⟩ = some (.int .i64 r.bdg) ∧ w'.cell? ⟨Y, 4, none⟩ = some (.int .i64 r.node) ∧ w'.cell? ⟨Y, 5, none⟩ = some (.int .i64 r.life) ∧ w'.cell? ⟨Y, 6, none⟩ = some (.int .i64 r.code) ∧ w'.cell? ⟨Y, 7, none⟩ = some (.int .u64 r.bits)) := hide fun w' hw => by
        obtain ⟨h1, h2⟩ := hw
        simp [World.cell?, h1, h2]
      refine wp_region_held_drew (S := fun w' => w'.heap[b]? = some (.cells #[.pointer (some ⟨kb, 0, none⟩)] 59 (0, 0)) ∧ w'.heap[Y]? = some (.cells #[.int .i64 r.job, .int .i64 r.st, .int .i64 r.att, .int .i64 r.bdg, .int .i64 r.node, .int .i64 r.life, .int .i64 r.code, .int .u64 r.bits] 82 (0, 0))) (by kernel_rfl) (⟨HSb.out, HSy.out⟩) (fun hHeld => ?_)
      refine wpAnyH_take (i := 0) (v := .pointer (some ⟨w.heap.size + 1, 1, none⟩)) rfl (by kernel_rfl) (by kernel_rfl) (by kernel_rfl) (fun _ _ _ h => h) (Or.inl ⟨by kernel_rfl, fun w1 hSw => by clear hHeld; obtain ⟨k0, k1, k2, k3, k4, k5, k6, k7, k8⟩ := HCe.out _ hSw; go_simp⟩) hHeld ?_
      try simp only [Act.put]
      try simp only [List.getElem_toArray]
      try simp only [List.getElem_cons_succ]
      try simp only [List.getElem_cons_zero]
      try simp only [List.setIfInBounds_toArray]
      try simp only [List.set_cons_succ, List.set_cons_zero]
      refine wpAnyH_take (i := 2) (v := .pointer (some ⟨b, 0, none⟩)) rfl (by kernel_rfl) (by kernel_rfl) (by kernel_rfl) (fun _ _ _ h => h) (Or.inl ⟨by kernel_rfl, fun w1 hSw => by clear hHeld; obtain ⟨k0, k1, k2, k3, k4, k5, k6, k7, k8⟩ := HCe.out _ hSw; go_simp⟩) hHeld ?_
      try simp only [Act.put]
      try simp only [List.getElem_toArray]
      try simp only [List.getElem_cons_succ]
      try simp only [List.getElem_cons_zero]
      try simp only [List.setIfInBounds_toArray]
      try simp only [List.set_cons_succ, List.set_cons_zero]
      refine wpAnyH_take (i := 3) (v := .pointer (some ⟨b, 0, none⟩)) rfl (by kernel_rfl) (by kernel_rfl) (by kernel_rfl) (fun _ _ _ h => h) (Or.inl ⟨by kernel_rfl, fun w1 hSw => by clear hHeld; obtain ⟨k0, k1, k2, k3, k4, k5, k6, k7, k8⟩ := HCe.out _ hSw; go_simp⟩) hHeld ?_
      try simp only [Act.put]
      try simp only [List.getElem_toArray]
      try simp only [List.getElem_cons_succ]
      try simp only [List.getElem_cons_zero]
      try simp only [List.setIfInBounds_toArray]
      try simp only [List.set_cons_succ, List.set_cons_zero]
      refine wpAnyH_take (i := 4) (v := .pointer (some ⟨b, 0, none⟩)) rfl (by kernel_rfl) (by kernel_rfl) (by kernel_rfl) (fun _ _ _ h => h) (Or.inl ⟨by kernel_rfl, fun w1 hSw => by clear hHeld; obtain ⟨k0, k1, k2, k3, k4, k5, k6, k7, k8⟩ := HCe.out _ hSw; go_simp⟩) hHeld ?_
      try simp only [Act.put]
      try simp only [List.getElem_toArray]
      try simp only [List.getElem_cons_succ]
      try simp only [List.getElem_cons_zero]
      try simp only [List.setIfInBounds_toArray]
      try simp only [List.set_cons_succ, List.set_cons_zero]
      refine wpAnyH_take (i := 5) (v := .pointer (some ⟨kb, 0, none⟩)) rfl (by kernel_rfl) (by kernel_rfl) (by kernel_rfl) (fun _ _ _ h => h) (Or.inl ⟨by kernel_rfl, fun w1 hSw => by clear hHeld; obtain ⟨k0, k1, k2, k3, k4, k5, k6, k7, k8⟩ := HCe.out _ hSw; go_simp⟩) hHeld ?_
      try simp only [Act.put]
      try simp only [List.getElem_toArray]
      try simp only [List.getElem_cons_succ]
      try simp only [List.getElem_cons_zero]
      try simp only [List.setIfInBounds_toArray]
      try simp only [List.set_cons_succ, List.set_cons_zero]
      refine wpAnyH_take (i := 6) (v := .agg #[.int .i64 r.job, .int .i64 r.st, .int .i64 r.att, .int .i64 r.bdg, .int .i64 r.node, .int .i64 r.life, .int .i64 r.code, .int .u64 r.bits]) rfl (by kernel_rfl) (by kernel_rfl) (by kernel_rfl) (fun _ _ _ h => h) (Or.inl ⟨by kernel_rfl, fun w1 hSw => by clear hHeld; obtain ⟨k0, k1, k2, k3, k4, k5, k6, k7, k8⟩ := HCe.out _ hSw; go_simp⟩) hHeld ?_
      try simp only [Act.put]
      try simp only [List.getElem_toArray]
      try simp only [List.getElem_cons_succ]
      try simp only [List.getElem_cons_zero]
      try simp only [List.setIfInBounds_toArray]
      try simp only [List.set_cons_succ, List.set_cons_zero]
      refine wpAnyH_ready (rs := [1, 7]) (by kernel_rfl) (by simp) ?_
      refine AllReadyH.cons rfl (fun K hK => ?_) (AllReadyH.cons rfl (fun K hK => ?_) AllReadyH.nil)
      · go_simp
        refine hK.out _ _ (hHeld) (fun hHeld => ?_)
        clear hK K
        try simp only [Act.put]
        try simp only [List.getElem_toArray]
        try simp only [List.getElem_cons_succ]
        try simp only [List.getElem_cons_zero]
        try simp only [List.setIfInBounds_toArray]
        try simp only [List.set_cons_succ, List.set_cons_zero]
        refine wpAnyH_ready (rs := [7]) (by kernel_rfl) (by simp) ?_
        refine AllReadyH.cons rfl (fun K hK => ?_) AllReadyH.nil
        go_simp
        refine HPl.out.mono ?_
        rintro e V7 ⟨t7, rfl, ho7, hb7⟩
        have hn7 := own_slice ho7
        obtain ⟨p7, c7, rfl⟩ := hn7
        have HS7 := hide (⟨(hb7.block _ hbl).trans HSb.out, (hb7.block _ hYl).trans HSy.out⟩ : _ ∧ _)
        have x7 : V7.cell? ⟨w.heap.size + 1, 1, none⟩ = some (.slice pj k cj) := (hb7.cell (p := ⟨w.heap.size + 1, 1, none⟩) hXl).trans x5
        have HJ7 := hide ((jr_drew HJ5.out).below hb7)
        have HX7 := hide ((hb7.block _ hXl).trans HX5.out)
        have HG7 := hide ((hb7.block _ hgl).trans HG5.out)
        have HZ7 := hide ((hb7.block _ hZl).trans HZ5.out)
        have HB7 := hide (HB5.out.drew.trans (hb7.mono hA5))
        have HO7 := hide (own_weak ho7 hA5)
        have hV7 := HB7.out.size
        have hX7l := lt_of_block HX7.out
        clear ho7 hb7
        simp only [plC]
        refine hK.out _ _ (HS7.out) (fun hHeld => ?_)
        clear hK K
        try simp only [Act.put]
        try simp only [List.getElem_toArray]
        try simp only [List.getElem_cons_succ]
        try simp only [List.getElem_cons_zero]
        try simp only [List.setIfInBounds_toArray]
        try simp only [List.set_cons_succ, List.set_cons_zero]
        refine wpAnyH_ready (rs := [8]) (by kernel_rfl) (by simp) ?_
        refine AllReadyH.cons rfl (fun K hK => ?_) AllReadyH.nil
        go_simp
        have HS8 := hide (⟨((below_alloc V7 (.cells #[.int .i64 r.job, .int .i64 r.st, .int .i64 r.att, .int .i64 r.bdg, .int .i64 r.node, .int .i64 r.life, .int .i64 r.code, .int .u64 r.bits, .string pr, .slice p7 nl c7] 84)).block _ (lt_of_block HS7.out.1)).trans HS7.out.1, ((below_alloc V7 (.cells #[.int .i64 r.job, .int .i64 r.st, .int .i64 r.att, .int .i64 r.bdg, .int .i64 r.node, .int .i64 r.life, .int .i64 r.code, .int .u64 r.bits, .string pr, .slice p7 nl c7] 84)).block _ (lt_of_block HS7.out.2)).trans HS7.out.2⟩ : _ ∧ _)
        have x8 : (V7.alloc (.cells #[.int .i64 r.job, .int .i64 r.st, .int .i64 r.att, .int .i64 r.bdg, .int .i64 r.node, .int .i64 r.life, .int .i64 r.code, .int .u64 r.bits, .string pr, .slice p7 nl c7] 84)).cell? ⟨w.heap.size + 1, 1, none⟩ = some (.slice pj k cj) := Lib.cell?_alloc_some _ x7
        refine hK.out _ _ (HS8.out) (fun hHeld => ?_)
        clear hK K
        try simp only [Act.put]
        try simp only [List.getElem_toArray]
        try simp only [List.getElem_cons_succ]
        try simp only [List.getElem_cons_zero]
        try simp only [List.setIfInBounds_toArray]
        try simp only [List.set_cons_succ, List.set_cons_zero]
        refine wpAnyH_ready (rs := [9]) (by kernel_rfl) (by simp) ?_
        refine AllReadyH.cons rfl (fun K hK => ?_) AllReadyH.nil
        rw [if_pos (by kernel_rfl)]
        have hba := below_alloc V7 (.cells #[.int .i64 r.job, .int .i64 r.st, .int .i64 r.att, .int .i64 r.bdg, .int .i64 r.node, .int .i64 r.life, .int .i64 r.code, .int .u64 r.bits, .string pr, .slice p7 nl c7] 84)
        have HJ8 := hide (HJ7.out.below hba)
        have HX8 := hide ((hba.block _ hX7l).trans HX7.out)
        have HO8 := hide (own_keep HO7.out fun g hg => hba.block g (HO7.out.lt g hg).2)
        have hnew := heap_alloc_new V7 (.cells #[.int .i64 r.job, .int .i64 r.st, .int .i64 r.att, .int .i64 r.bdg, .int .i64 r.node, .int .i64 r.life, .int .i64 r.code, .int .u64 r.bits, .string pr, .slice p7 nl c7] 84)
        refine wp_append_own _ _ _ 43 rfl w.heap.size 84 iP _ 10 104 Tryz.underlying43 hiP zP0 zP1 zP2 rfl (by decide) (.slice pj k cj) k (jcs J) (by rfl) (by have := HJ8.out.row; rw [hJk] at this; exact this) ⟨V7.heap.size, 0, none⟩ 1 1 (Jb.cs ⟨r, P, .slice p7 nl c7⟩) (by rfl) rfl (fun j u hu => by rw [Addr.add_lit, Nat.zero_add]; simp only [World.cell?, hnew]; simp only [Jb.cs, plC, HPr.out] at hu; simpa using hu) (by intro u hu; simp only [Jb.cs, plC, List.mem_cons, List.not_mem_nil, or_false] at hu; rcases hu with rfl | rfl | rfl | rfl | rfl | rfl | rfl | rfl | rfl | rfl <;> rfl) (by unfold maxLen; omega) (by omega) (by rw [World.size_alloc]; omega) ?_
        intro v9 w9 hown hgrow _
        obtain ⟨p9, c9, rfl⟩ := own_slice hown
        have hpush := Jr.push (j := ⟨r, P, .slice p7 nl c7⟩) HJ8.out (by show World.ownsRow _ _ _ _ _ P.lg.length _; rw [HLg.out]; exact HO8.out) HX8.out (by rw [hJk]; exact hown) hgrow
        obtain ⟨hJ9, hX9, x9, z9, hl9⟩ := hpush
        have HJ9 := hide hJ9
        have HX9 := hide hX9
        have HS9 := hide (⟨(hgrow.block _ (by rw [World.size_alloc]; have := lt_of_block HS7.out.1; omega) (fun e => by have := (HJ8.out.row.lt b (by rw [← e])).1; omega)).trans HS8.out.1, (hgrow.block _ (by rw [World.size_alloc]; have := lt_of_block HS7.out.2; omega) (fun e => own_ty HJ8.out.row HS8.out.2 (by decide) e.symm)).trans HS8.out.2⟩ : _ ∧ _)
        have HG9 := hide ((hgrow.block g (by rw [World.size_alloc]; have := lt_of_block HG7.out; omega) (fun e => own_ty HJ8.out.row ((hba.block g (lt_of_block HG7.out)).trans HG7.out) (by decide) e.symm)).trans ((hba.block g (lt_of_block HG7.out)).trans HG7.out))
        have HZ9 := hide ((hgrow.block w.heap.size (by rw [World.size_alloc]; have := lt_of_block HZ7.out; omega) (fun e => own_ty HJ8.out.row ((hba.block _ (lt_of_block HZ7.out)).trans HZ7.out) (by decide) e.symm)).trans ((hba.block _ (lt_of_block HZ7.out)).trans HZ7.out))
        have HB9 := hide ((HB7.out.alloc (by omega) _).grown hgrow (by rw [World.size_alloc]; omega) (fun k hk => (HJ8.out.row.lt k hk).1))
        clear hown hgrow hJ9 hX9 hba hnew
        refine hK.out _ _ (HS9.out) (fun hHeld => ?_)
        clear hK K
        try simp only [Act.put]
        try simp only [List.getElem_toArray]
        try simp only [List.getElem_cons_succ]
        try simp only [List.getElem_cons_zero]
        try simp only [List.setIfInBounds_toArray]
        try simp only [List.set_cons_succ, List.set_cons_zero]
        refine wpAnyH_take (i := 10) (v := .pointer (some ⟨w.heap.size + 1, 1, none⟩)) rfl (by kernel_rfl) (by kernel_rfl) (by kernel_rfl) (fun _ _ _ h => h) (Or.inl ⟨by kernel_rfl, fun w1 hSw => by clear hHeld; obtain ⟨k0, k1, k2, k3, k4, k5, k6, k7, k8⟩ := HCe.out _ hSw; go_simp⟩) hHeld ?_
        try simp only [Act.put]
        try simp only [List.getElem_toArray]
        try simp only [List.getElem_cons_succ]
        try simp only [List.getElem_cons_zero]
        try simp only [List.setIfInBounds_toArray]
        try simp only [List.set_cons_succ, List.set_cons_zero]
        refine wpAnyH_ready (rs := [11]) (by kernel_rfl) (by simp) ?_
        refine AllReadyH.cons rfl (fun K hK => ?_) AllReadyH.nil
        go_simp
        refine hK.out _ _ (⟨(Below.heap_setCell _ ⟨w.heap.size + 1, 1, none⟩ _ b (by show b ≠ w.heap.size + 1; omega)).trans HS9.out.1, (Below.heap_setCell _ ⟨w.heap.size + 1, 1, none⟩ _ Y (by show Y ≠ w.heap.size + 1; omega)).trans HS9.out.2⟩) (fun hHeld => ?_)
        clear hK K
        try simp only [Act.put]
        try simp only [List.getElem_toArray]
        try simp only [List.getElem_cons_succ]
        try simp only [List.getElem_cons_zero]
        try simp only [List.setIfInBounds_toArray]
        try simp only [List.set_cons_succ, List.set_cons_zero]
        refine wpAnyH_done (by kernel_rfl) ?_ _
        clear hHeld
        go_wp2_with fail
        go_roundw
        case rel => exact ⟨k + 1, _, J ++ [⟨r, P, .slice p7 nl c7⟩], by go_num, by omega, by simp [hJk], HSt.out _, HX9, HJ9, hide ((Below.heap_setCell _ ⟨w.heap.size + 1, 1, none⟩ _ g (by show g ≠ w.heap.size + 1; omega)).trans HG9.out), hide ((Below.heap_setCell _ ⟨w.heap.size + 1, 1, none⟩ _ w.heap.size (by show w.heap.size ≠ w.heap.size + 1; omega)).trans HZ9.out), hide (HB9.out.setCell (Nat.le_succ _) _)⟩
        case measure => simp only [intOf]; omega
      · go_simp
        refine HPl.out.mono ?_
        rintro e V7 ⟨t7, rfl, ho7, hb7⟩
        have hn7 := own_slice ho7
        obtain ⟨p7, c7, rfl⟩ := hn7
        have HS7 := hide (⟨(hb7.block _ hbl).trans HSb.out, (hb7.block _ hYl).trans HSy.out⟩ : _ ∧ _)
        have x7 : V7.cell? ⟨w.heap.size + 1, 1, none⟩ = some (.slice pj k cj) := (hb7.cell (p := ⟨w.heap.size + 1, 1, none⟩) hXl).trans x5
        have HJ7 := hide ((jr_drew HJ5.out).below hb7)
        have HX7 := hide ((hb7.block _ hXl).trans HX5.out)
        have HG7 := hide ((hb7.block _ hgl).trans HG5.out)
        have HZ7 := hide ((hb7.block _ hZl).trans HZ5.out)
        have HB7 := hide (HB5.out.drew.trans (hb7.mono hA5))
        have HO7 := hide (own_weak ho7 hA5)
        have hV7 := HB7.out.size
        have hX7l := lt_of_block HX7.out
        clear ho7 hb7
        simp only [plC]
        refine hK.out _ _ (HS7.out) (fun hHeld => ?_)
        clear hK K
        try simp only [Act.put]
        try simp only [List.getElem_toArray]
        try simp only [List.getElem_cons_succ]
        try simp only [List.getElem_cons_zero]
        try simp only [List.setIfInBounds_toArray]
        try simp only [List.set_cons_succ, List.set_cons_zero]
        refine wpAnyH_ready (rs := [1, 8]) (by kernel_rfl) (by simp) ?_
        refine AllReadyH.cons rfl (fun K hK => ?_) (AllReadyH.cons rfl (fun K hK => ?_) AllReadyH.nil)
        · go_simp
          refine hK.out _ _ (hHeld) (fun hHeld => ?_)
          clear hK K
          try simp only [Act.put]
          try simp only [List.getElem_toArray]
          try simp only [List.getElem_cons_succ]
          try simp only [List.getElem_cons_zero]
          try simp only [List.setIfInBounds_toArray]
          try simp only [List.set_cons_succ, List.set_cons_zero]
          refine wpAnyH_ready (rs := [8]) (by kernel_rfl) (by simp) ?_
          refine AllReadyH.cons rfl (fun K hK => ?_) AllReadyH.nil
          go_simp
          have HS8 := hide (⟨((below_alloc V7 (.cells #[.int .i64 r.job, .int .i64 r.st, .int .i64 r.att, .int .i64 r.bdg, .int .i64 r.node, .int .i64 r.life, .int .i64 r.code, .int .u64 r.bits, .string pr, .slice p7 nl c7] 84)).block _ (lt_of_block HS7.out.1)).trans HS7.out.1, ((below_alloc V7 (.cells #[.int .i64 r.job, .int .i64 r.st, .int .i64 r.att, .int .i64 r.bdg, .int .i64 r.node, .int .i64 r.life, .int .i64 r.code, .int .u64 r.bits, .string pr, .slice p7 nl c7] 84)).block _ (lt_of_block HS7.out.2)).trans HS7.out.2⟩ : _ ∧ _)
          have x8 : (V7.alloc (.cells #[.int .i64 r.job, .int .i64 r.st, .int .i64 r.att, .int .i64 r.bdg, .int .i64 r.node, .int .i64 r.life, .int .i64 r.code, .int .u64 r.bits, .string pr, .slice p7 nl c7] 84)).cell? ⟨w.heap.size + 1, 1, none⟩ = some (.slice pj k cj) := Lib.cell?_alloc_some _ x7
          refine hK.out _ _ (HS8.out) (fun hHeld => ?_)
          clear hK K
          try simp only [Act.put]
          try simp only [List.getElem_toArray]
          try simp only [List.getElem_cons_succ]
          try simp only [List.getElem_cons_zero]
          try simp only [List.setIfInBounds_toArray]
          try simp only [List.set_cons_succ, List.set_cons_zero]
          refine wpAnyH_ready (rs := [9]) (by kernel_rfl) (by simp) ?_
          refine AllReadyH.cons rfl (fun K hK => ?_) AllReadyH.nil
          rw [if_pos (by kernel_rfl)]
          have hba := below_alloc V7 (.cells #[.int .i64 r.job, .int .i64 r.st, .int .i64 r.att, .int .i64 r.bdg, .int .i64 r.node, .int .i64 r.life, .int .i64 r.code, .int .u64 r.bits, .string pr, .slice p7 nl c7] 84)
          have HJ8 := hide (HJ7.out.below hba)
          have HX8 := hide ((hba.block _ hX7l).trans HX7.out)
          have HO8 := hide (own_keep HO7.out fun g hg => hba.block g (HO7.out.lt g hg).2)
          have hnew := heap_alloc_new V7 (.cells #[.int .i64 r.job, .int .i64 r.st, .int .i64 r.att, .int .i64 r.bdg, .int .i64 r.node, .int .i64 r.life, .int .i64 r.code, .int .u64 r.bits, .string pr, .slice p7 nl c7] 84)
          refine wp_append_own _ _ _ 43 rfl w.heap.size 84 iP _ 10 104 Tryz.underlying43 hiP zP0 zP1 zP2 rfl (by decide) (.slice pj k cj) k (jcs J) (by rfl) (by have := HJ8.out.row; rw [hJk] at this; exact this) ⟨V7.heap.size, 0, none⟩ 1 1 (Jb.cs ⟨r, P, .slice p7 nl c7⟩) (by rfl) rfl (fun j u hu => by rw [Addr.add_lit, Nat.zero_add]; simp only [World.cell?, hnew]; simp only [Jb.cs, plC, HPr.out] at hu; simpa using hu) (by intro u hu; simp only [Jb.cs, plC, List.mem_cons, List.not_mem_nil, or_false] at hu; rcases hu with rfl | rfl | rfl | rfl | rfl | rfl | rfl | rfl | rfl | rfl <;> rfl) (by unfold maxLen; omega) (by omega) (by rw [World.size_alloc]; omega) ?_
          intro v9 w9 hown hgrow _
          obtain ⟨p9, c9, rfl⟩ := own_slice hown
          have hpush := Jr.push (j := ⟨r, P, .slice p7 nl c7⟩) HJ8.out (by show World.ownsRow _ _ _ _ _ P.lg.length _; rw [HLg.out]; exact HO8.out) HX8.out (by rw [hJk]; exact hown) hgrow
          obtain ⟨hJ9, hX9, x9, z9, hl9⟩ := hpush
          have HJ9 := hide hJ9
          have HX9 := hide hX9
          have HS9 := hide (⟨(hgrow.block _ (by rw [World.size_alloc]; have := lt_of_block HS7.out.1; omega) (fun e => by have := (HJ8.out.row.lt b (by rw [← e])).1; omega)).trans HS8.out.1, (hgrow.block _ (by rw [World.size_alloc]; have := lt_of_block HS7.out.2; omega) (fun e => own_ty HJ8.out.row HS8.out.2 (by decide) e.symm)).trans HS8.out.2⟩ : _ ∧ _)
          have HG9 := hide ((hgrow.block g (by rw [World.size_alloc]; have := lt_of_block HG7.out; omega) (fun e => own_ty HJ8.out.row ((hba.block g (lt_of_block HG7.out)).trans HG7.out) (by decide) e.symm)).trans ((hba.block g (lt_of_block HG7.out)).trans HG7.out))
          have HZ9 := hide ((hgrow.block w.heap.size (by rw [World.size_alloc]; have := lt_of_block HZ7.out; omega) (fun e => own_ty HJ8.out.row ((hba.block _ (lt_of_block HZ7.out)).trans HZ7.out) (by decide) e.symm)).trans ((hba.block _ (lt_of_block HZ7.out)).trans HZ7.out))
          have HB9 := hide ((HB7.out.alloc (by omega) _).grown hgrow (by rw [World.size_alloc]; omega) (fun k hk => (HJ8.out.row.lt k hk).1))
          clear hown hgrow hJ9 hX9 hba hnew
          refine hK.out _ _ (HS9.out) (fun hHeld => ?_)
          clear hK K
          try simp only [Act.put]
          try simp only [List.getElem_toArray]
          try simp only [List.getElem_cons_succ]
          try simp only [List.getElem_cons_zero]
          try simp only [List.setIfInBounds_toArray]
          try simp only [List.set_cons_succ, List.set_cons_zero]
          refine wpAnyH_take (i := 10) (v := .pointer (some ⟨w.heap.size + 1, 1, none⟩)) rfl (by kernel_rfl) (by kernel_rfl) (by kernel_rfl) (fun _ _ _ h => h) (Or.inl ⟨by kernel_rfl, fun w1 hSw => by clear hHeld; obtain ⟨k0, k1, k2, k3, k4, k5, k6, k7, k8⟩ := HCe.out _ hSw; go_simp⟩) hHeld ?_
          try simp only [Act.put]
          try simp only [List.getElem_toArray]
          try simp only [List.getElem_cons_succ]
          try simp only [List.getElem_cons_zero]
          try simp only [List.setIfInBounds_toArray]
          try simp only [List.set_cons_succ, List.set_cons_zero]
          refine wpAnyH_ready (rs := [11]) (by kernel_rfl) (by simp) ?_
          refine AllReadyH.cons rfl (fun K hK => ?_) AllReadyH.nil
          go_simp
          refine hK.out _ _ (⟨(Below.heap_setCell _ ⟨w.heap.size + 1, 1, none⟩ _ b (by show b ≠ w.heap.size + 1; omega)).trans HS9.out.1, (Below.heap_setCell _ ⟨w.heap.size + 1, 1, none⟩ _ Y (by show Y ≠ w.heap.size + 1; omega)).trans HS9.out.2⟩) (fun hHeld => ?_)
          clear hK K
          try simp only [Act.put]
          try simp only [List.getElem_toArray]
          try simp only [List.getElem_cons_succ]
          try simp only [List.getElem_cons_zero]
          try simp only [List.setIfInBounds_toArray]
          try simp only [List.set_cons_succ, List.set_cons_zero]
          refine wpAnyH_done (by kernel_rfl) ?_ _
          clear hHeld
          go_wp2_with fail
          go_roundw
          case rel => exact ⟨k + 1, _, J ++ [⟨r, P, .slice p7 nl c7⟩], by go_num, by omega, by simp [hJk], HSt.out _, HX9, HJ9, hide ((Below.heap_setCell _ ⟨w.heap.size + 1, 1, none⟩ _ g (by show g ≠ w.heap.size + 1; omega)).trans HG9.out), hide ((Below.heap_setCell _ ⟨w.heap.size + 1, 1, none⟩ _ w.heap.size (by show w.heap.size ≠ w.heap.size + 1; omega)).trans HZ9.out), hide (HB9.out.setCell (Nat.le_succ _) _)⟩
          case measure => simp only [intOf]; omega
        · go_simp
          have HS8 := hide (⟨((below_alloc V7 (.cells #[.int .i64 r.job, .int .i64 r.st, .int .i64 r.att, .int .i64 r.bdg, .int .i64 r.node, .int .i64 r.life, .int .i64 r.code, .int .u64 r.bits, .string pr, .slice p7 nl c7] 84)).block _ (lt_of_block HS7.out.1)).trans HS7.out.1, ((below_alloc V7 (.cells #[.int .i64 r.job, .int .i64 r.st, .int .i64 r.att, .int .i64 r.bdg, .int .i64 r.node, .int .i64 r.life, .int .i64 r.code, .int .u64 r.bits, .string pr, .slice p7 nl c7] 84)).block _ (lt_of_block HS7.out.2)).trans HS7.out.2⟩ : _ ∧ _)
          have x8 : (V7.alloc (.cells #[.int .i64 r.job, .int .i64 r.st, .int .i64 r.att, .int .i64 r.bdg, .int .i64 r.node, .int .i64 r.life, .int .i64 r.code, .int .u64 r.bits, .string pr, .slice p7 nl c7] 84)).cell? ⟨w.heap.size + 1, 1, none⟩ = some (.slice pj k cj) := Lib.cell?_alloc_some _ x7
          refine hK.out _ _ (HS8.out) (fun hHeld => ?_)
          clear hK K
          try simp only [Act.put]
          try simp only [List.getElem_toArray]
          try simp only [List.getElem_cons_succ]
          try simp only [List.getElem_cons_zero]
          try simp only [List.setIfInBounds_toArray]
          try simp only [List.set_cons_succ, List.set_cons_zero]
          refine wpAnyH_ready (rs := [1]) (by kernel_rfl) (by simp) ?_
          refine AllReadyH.cons rfl (fun K hK => ?_) AllReadyH.nil
          go_simp
          refine hK.out _ _ (hHeld) (fun hHeld => ?_)
          clear hK K
          try simp only [Act.put]
          try simp only [List.getElem_toArray]
          try simp only [List.getElem_cons_succ]
          try simp only [List.getElem_cons_zero]
          try simp only [List.setIfInBounds_toArray]
          try simp only [List.set_cons_succ, List.set_cons_zero]
          refine wpAnyH_ready (rs := [9]) (by kernel_rfl) (by simp) ?_
          refine AllReadyH.cons rfl (fun K hK => ?_) AllReadyH.nil
          rw [if_pos (by kernel_rfl)]
          have hba := below_alloc V7 (.cells #[.int .i64 r.job, .int .i64 r.st, .int .i64 r.att, .int .i64 r.bdg, .int .i64 r.node, .int .i64 r.life, .int .i64 r.code, .int .u64 r.bits, .string pr, .slice p7 nl c7] 84)
          have HJ8 := hide (HJ7.out.below hba)
          have HX8 := hide ((hba.block _ hX7l).trans HX7.out)
          have HO8 := hide (own_keep HO7.out fun g hg => hba.block g (HO7.out.lt g hg).2)
          have hnew := heap_alloc_new V7 (.cells #[.int .i64 r.job, .int .i64 r.st, .int .i64 r.att, .int .i64 r.bdg, .int .i64 r.node, .int .i64 r.life, .int .i64 r.code, .int .u64 r.bits, .string pr, .slice p7 nl c7] 84)
          refine wp_append_own _ _ _ 43 rfl w.heap.size 84 iP _ 10 104 Tryz.underlying43 hiP zP0 zP1 zP2 rfl (by decide) (.slice pj k cj) k (jcs J) (by rfl) (by have := HJ8.out.row; rw [hJk] at this; exact this) ⟨V7.heap.size, 0, none⟩ 1 1 (Jb.cs ⟨r, P, .slice p7 nl c7⟩) (by rfl) rfl (fun j u hu => by rw [Addr.add_lit, Nat.zero_add]; simp only [World.cell?, hnew]; simp only [Jb.cs, plC, HPr.out] at hu; simpa using hu) (by intro u hu; simp only [Jb.cs, plC, List.mem_cons, List.not_mem_nil, or_false] at hu; rcases hu with rfl | rfl | rfl | rfl | rfl | rfl | rfl | rfl | rfl | rfl <;> rfl) (by unfold maxLen; omega) (by omega) (by rw [World.size_alloc]; omega) ?_
          intro v9 w9 hown hgrow _
          obtain ⟨p9, c9, rfl⟩ := own_slice hown
          have hpush := Jr.push (j := ⟨r, P, .slice p7 nl c7⟩) HJ8.out (by show World.ownsRow _ _ _ _ _ P.lg.length _; rw [HLg.out]; exact HO8.out) HX8.out (by rw [hJk]; exact hown) hgrow
          obtain ⟨hJ9, hX9, x9, z9, hl9⟩ := hpush
          have HJ9 := hide hJ9
          have HX9 := hide hX9
          have HS9 := hide (⟨(hgrow.block _ (by rw [World.size_alloc]; have := lt_of_block HS7.out.1; omega) (fun e => by have := (HJ8.out.row.lt b (by rw [← e])).1; omega)).trans HS8.out.1, (hgrow.block _ (by rw [World.size_alloc]; have := lt_of_block HS7.out.2; omega) (fun e => own_ty HJ8.out.row HS8.out.2 (by decide) e.symm)).trans HS8.out.2⟩ : _ ∧ _)
          have HG9 := hide ((hgrow.block g (by rw [World.size_alloc]; have := lt_of_block HG7.out; omega) (fun e => own_ty HJ8.out.row ((hba.block g (lt_of_block HG7.out)).trans HG7.out) (by decide) e.symm)).trans ((hba.block g (lt_of_block HG7.out)).trans HG7.out))
          have HZ9 := hide ((hgrow.block w.heap.size (by rw [World.size_alloc]; have := lt_of_block HZ7.out; omega) (fun e => own_ty HJ8.out.row ((hba.block _ (lt_of_block HZ7.out)).trans HZ7.out) (by decide) e.symm)).trans ((hba.block _ (lt_of_block HZ7.out)).trans HZ7.out))
          have HB9 := hide ((HB7.out.alloc (by omega) _).grown hgrow (by rw [World.size_alloc]; omega) (fun k hk => (HJ8.out.row.lt k hk).1))
          clear hown hgrow hJ9 hX9 hba hnew
          refine hK.out _ _ (HS9.out) (fun hHeld => ?_)
          clear hK K
          try simp only [Act.put]
          try simp only [List.getElem_toArray]
          try simp only [List.getElem_cons_succ]
          try simp only [List.getElem_cons_zero]
          try simp only [List.setIfInBounds_toArray]
          try simp only [List.set_cons_succ, List.set_cons_zero]
          refine wpAnyH_take (i := 10) (v := .pointer (some ⟨w.heap.size + 1, 1, none⟩)) rfl (by kernel_rfl) (by kernel_rfl) (by kernel_rfl) (fun _ _ _ h => h) (Or.inl ⟨by kernel_rfl, fun w1 hSw => by clear hHeld; obtain ⟨k0, k1, k2, k3, k4, k5, k6, k7, k8⟩ := HCe.out _ hSw; go_simp⟩) hHeld ?_
          try simp only [Act.put]
          try simp only [List.getElem_toArray]
          try simp only [List.getElem_cons_succ]
          try simp only [List.getElem_cons_zero]
          try simp only [List.setIfInBounds_toArray]
          try simp only [List.set_cons_succ, List.set_cons_zero]
          refine wpAnyH_ready (rs := [11]) (by kernel_rfl) (by simp) ?_
          refine AllReadyH.cons rfl (fun K hK => ?_) AllReadyH.nil
          go_simp
          refine hK.out _ _ (⟨(Below.heap_setCell _ ⟨w.heap.size + 1, 1, none⟩ _ b (by show b ≠ w.heap.size + 1; omega)).trans HS9.out.1, (Below.heap_setCell _ ⟨w.heap.size + 1, 1, none⟩ _ Y (by show Y ≠ w.heap.size + 1; omega)).trans HS9.out.2⟩) (fun hHeld => ?_)
          clear hK K
          try simp only [Act.put]
          try simp only [List.getElem_toArray]
          try simp only [List.getElem_cons_succ]
          try simp only [List.getElem_cons_zero]
          try simp only [List.setIfInBounds_toArray]
          try simp only [List.set_cons_succ, List.set_cons_zero]
          refine wpAnyH_done (by kernel_rfl) ?_ _
          clear hHeld
          go_wp2_with fail
          go_roundw
          case rel => exact ⟨k + 1, _, J ++ [⟨r, P, .slice p7 nl c7⟩], by go_num, by omega, by simp [hJk], HSt.out _, HX9, HJ9, hide ((Below.heap_setCell _ ⟨w.heap.size + 1, 1, none⟩ _ g (by show g ≠ w.heap.size + 1; omega)).trans HG9.out), hide ((Below.heap_setCell _ ⟨w.heap.size + 1, 1, none⟩ _ w.heap.size (by show w.heap.size ≠ w.heap.size + 1; omega)).trans HZ9.out), hide (HB9.out.setCell (Nat.le_succ _) _)⟩
          case measure => simp only [intOf]; omega
    · obtain rfl : k = s.L.length := by omega
      have hki : ¬ ((s.L.length : Int) < (s.L.length : Int)) := by omega
      have y0 : wr.cell? ⟨w.heap.size + 1, 0, none⟩ = some (.int .i64 s.res) := by simp [World.cell?, HXr.out]
      have y1 : wr.cell? ⟨w.heap.size + 1, 1, none⟩ = some vj := by simp [World.cell?, HXr.out]
      have y2 : wr.cell? ⟨w.heap.size, 0, none⟩ = some (.int .i64 0) := by simp [World.cell?, HZr.out]
      have y3 : wr.cell? ⟨w.heap.size, 1, none⟩ = some (.slice none 0 0) := by simp [World.cell?, HZr.out]
      have y4 : ∀ k, wr.frozen? ⟨w.heap.size, k, none⟩ = false := fun k => by simp [World.frozen?, HZr.out]
      have y5 := y4 0
      have y6 := y4 1
      have hlr := lt_of_block HZr.out
      have hJr := HJr.out
      obtain ⟨pj, cj, hvj⟩ := own_slice hJr.row
      subst hvj
      have hne : ∀ g, g ≠ w.heap.size → ((wr.setCell ⟨w.heap.size, 0, none⟩ (.int .i64 s.res)).setCell ⟨w.heap.size, 1, none⟩ (.slice pj J.length cj)).heap[g]? = wr.heap[g]? := fun g hg => (Below.heap_setCell _ ⟨w.heap.size, 1, none⟩ _ g hg).trans (Below.heap_setCell _ ⟨w.heap.size, 0, none⟩ _ g hg)
      have HJf : Hid (Jr w.heap.size ((wr.setCell ⟨w.heap.size, 0, none⟩ (.int .i64 s.res)).setCell ⟨w.heap.size, 1, none⟩ (.slice pj J.length cj)) (.slice pj J.length cj) J) := hide ⟨own_keep hJr.row fun g hg => hne g (fun e => own_ty hJr.row HZr.out (by decide) (e ▸ hg)), fun j hj => own_keep (hJr.lg j hj) fun g hg => hne g (fun e => own_ty (hJr.lg j hj) HZr.out (by decide) (e ▸ hg))⟩
      have HBf : Hid (Below w.heap.size w ((wr.setCell ⟨w.heap.size, 0, none⟩ (.int .i64 s.res)).setCell ⟨w.heap.size, 1, none⟩ (.slice pj J.length cj))) := hide ((HBr.out.setCell (Nat.le_refl _) _).setCell (Nat.le_refl _) _)
      have HJk := hide hJk
      have HJv := hide hJv
      clear HXr HJr HGr HZr HBr hJr hne hJk hJv HCu HK HW HBb
      go_wp2_with fail
      refine bodyPost_ret (by rw [results_c0 (fn := Tryz.f15) rfl]; go_simp; rfl) rfl ?_
      first | exact ⟨_, J, rfl, HJf.out, HJk.out, HJv.out, HBf.out⟩ | exact ⟨_, rfl, J, HJf.out, HJk.out, HJv.out, HBf.out⟩
end Go.Proofs.YtepondcflkledaaGreat.S
end
