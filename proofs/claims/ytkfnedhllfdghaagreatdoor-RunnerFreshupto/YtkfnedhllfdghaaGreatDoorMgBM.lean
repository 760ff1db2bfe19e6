import Derived.Test.YtkfnedhllfdghaaGreatDoorMgBI
import Derived.Great.Walk
import Derived.Deep.WholeRow

section
namespace Go.Proofs.YtkfnedhllfdghaaGreatDoor.RN
open Go.RowKit Go.Shelf
set_option maxRecDepth 20000

theorem ecs_at (T : List Ev) {j : Nat} {u : Value} (h : (ecs T)[j]? = some u) : u.oneCell' = true := ecs_one T u (List.mem_of_getElem? h)
set_option maxHeartbeats 1000000 in
/-- slices.Clone of what was told -/
theorem eclone_any {w : World} {v : Value} {T : List Ev} (h : w.ownsRow 0 98 13 v T.length (ecs T)) (hl : T.length * 128 ≤ 140737488355328) :
    Calls Tryz.prog 30 #[v] w fun e w' => ∃ v', e = .returned v' ∧ w'.ownsRow w.heap.size 98 13 v' T.length (ecs T) ∧ Below w.heap.size w w' := by
  obtain ⟨i0, hi0, hz0, hz1, hz2⟩ := info_parts infoEv
  by_cases hn : T.length = 0
  · have hT : T = [] := List.length_eq_zero_iff.1 hn
    subst hT
    rcases h.2 with ⟨rfl, _⟩ | ⟨g, cap, cur, rfl, _, hg, _⟩
    · have he : ∀ w : World, (binOp .eql 51 (.slice none 0 0) (.slice none 0 0)).run Tryz.prog w = .ok (.bool true) w := fun _ => rfl
      clear h
      go_enter Tryz.func30, Tryz.ntmps30
      go_wp2
      go_ret
      exact ⟨_, rfl, World.ownsRow_nil _ _ _ _, Below.refl _ _⟩
    · have hgl := lt_of_block hg
      have he : ∀ w : World, (binOp .eql 51 (.slice (some ⟨g, 0, none⟩) 0 cap) (.slice none 0 0)).run Tryz.prog w = .ok (.bool false) w := fun _ => rfl
      clear h
      show Calls Tryz.prog 30 #[.slice (some ⟨g, 0, none⟩) 0 cap] w _
      go_enter Tryz.func30, Tryz.ntmps30
      go_wp2_with (at_builtin; refine wpList_append_own _ rfl _ _ 51 rfl w.heap.size 98 i0 (.agg #[.int .i64 0, .int .i64 0, .int .i64 0, .int .i64 0, .int .i64 0, .int .i64 0, .int .i64 0, .int .i64 0, .int .i64 0, .int .i64 0, .int .u64 0, .string ByteArray.empty, .slice none 0 0]) 13 128 Tryz.underlying51 hi0 hz0 hz1 hz2 rfl (by decide) (.slice (some ⟨w.heap.size, 0, none⟩) 0 0) 0 [] rfl (World.ownsRow_made w #[] 0 (Nat.le_refl _) (by decide) rfl) ⟨g, 0, none⟩ 0 cap [] rfl rfl (fun j u hu => by cases hu) (fun u hu => by cases hu) (by decide) (by decide) (by rw [World.size_alloc]; omega) ?_; intro v1 w1 hown hgrow _)
      go_ret
      exact ⟨_, rfl, hown, ((Below.refl _ w).alloc (Nat.le_refl _) _).grown hgrow (by rw [World.size_alloc]; omega) (fun k hk => by simp only [Value.ownBlock] at hk; injection hk with hk; omega)⟩
  · obtain ⟨g, cap, cur, rfl, _, hg, _⟩ := CH.own_form h (by omega)
    have hgl := lt_of_block hg
    have HC := hide (h.cells (g := g) rfl)
    have he : ∀ w : World, (binOp .eql 51 (.slice (some ⟨g, 0, none⟩) T.length cap) (.slice none 0 0)).run Tryz.prog w = .ok (.bool false) w := fun _ => rfl
    have hll := ecs_len T
    have ho1 := ecs_one T
    clear h
    go_enter Tryz.func30, Tryz.ntmps30
    go_wp2_with (at_builtin; refine wpList_append_own _ rfl _ _ 51 rfl w.heap.size 98 i0 (.agg #[.int .i64 0, .int .i64 0, .int .i64 0, .int .i64 0, .int .i64 0, .int .i64 0, .int .i64 0, .int .i64 0, .int .i64 0, .int .i64 0, .int .u64 0, .string ByteArray.empty, .slice none 0 0]) 13 128 Tryz.underlying51 hi0 hz0 hz1 hz2 rfl (by decide) (.slice (some ⟨w.heap.size, 0, none⟩) 0 0) 0 [] rfl (World.ownsRow_made w #[] 0 (Nat.le_refl _) (by decide) rfl) ⟨g, 0, none⟩ T.length cap (ecs T) rfl hll (fun j u hu => Lib.cell?_alloc_some _ (HC.out j u hu)) ho1 (by unfold maxLen; omega) (by omega) (by rw [World.size_alloc]; omega) ?_; intro v1 w1 hown hgrow _)
    go_ret
    rw [Nat.zero_add, List.nil_append] at hown
    exact ⟨_, rfl, hown, ((Below.refl _ w).alloc (Nat.le_refl _) _).grown hgrow (by rw [World.size_alloc]; omega) (fun k hk => by simp only [Value.ownBlock] at hk; injection hk with hk; omega)⟩
set_option maxHeartbeats 1000000 in
theorem mclone_r {w : World} {B fuel : Nat} {m : Mc} {v : Value} (h : Mb w B m v fuel) (hv : v.oneCell' = true) :
    Calls Tryz.prog 70 #[.pointer (some ⟨B, 0, none⟩)] w fun e w' => e = .returned (.pointer (some ⟨w.heap.size, 0, none⟩)) ∧ Mb w' w.heap.size m v fuel ∧ Below w.heap.size w w' := by
  go_enter Tryz.func70, Tryz.ntmps70
  have hsz : (m.vs v fuel).toArray.size = 34 := by
    obtain ⟨r0, r1, r2, r3, r4, r5, r6, r7, s0, s1, s2, s3, s4, s5, s6, s7, p0, p1, p2, p3, p4, p5, p6, p7, hm⟩ := h.l8.cut
    rw [hm]
    rfl
  have hone : (m.vs v fuel).toArray.all (·.oneCell') = true := by
    obtain ⟨r0, r1, r2, r3, r4, r5, r6, r7, s0, s1, s2, s3, s4, s5, s6, s7, p0, p1, p2, p3, p4, p5, p6, p7, hm⟩ := h.l8.cut
    rw [hm]
    cases v <;> first | (simp [Mc.vs, Value.oneCell']; done) | cases hv
  refine wp_seq (wp_region_list ?_)
  refine Great.wpList_runTo rfl _ rfl (.pointer none) w (by kernel_rfl) ?_
  show Code.wp _ _ _ _ _
  refine wp_seq (wp_region_list ?_)
  refine Great.wpList_runTo rfl _ rfl (.pointer (some ⟨B, 0, none⟩)) w (by kernel_rfl) ?_
  refine Great.wpList_runTo rfl _ rfl (.pointer (some ⟨B, 0, none⟩)) w (by kernel_rfl) ?_
  refine wpList_load_row rfl 204 _ rfl B (by kernel_rfl) 204 (m.vs v fuel).toArray (0, 0) _ h.blk Tryz.underlying204 rfl (by rw [hsz]; kernel_rfl) ?_
  refine Great.wpList_allocTo rfl _ rfl (.pointer (some ⟨w.heap.size, 0, none⟩)) (.cells ((Im.m0.vs (.slice none 0 0) 0).toArray) 204) (by kernel_rfl) ?_
  refine wpList_store_row rfl 204 _ _ rfl w.heap.size (m.vs v fuel).toArray (by kernel_rfl) (by kernel_rfl) 204 (Im.m0.vs (.slice none 0 0) 0).toArray (heap_alloc_new w _) (by rw [hsz]; kernel_rfl) (by rw [hsz]; rfl) hone ?_
  show Code.wp _ _ _ _ _
  rw [World.setRow_alloc_new]
  go_wp2_with fail
  go_ret
  exact ⟨rfl, ⟨heap_alloc_new w _, h.l8⟩, CH.below_alloc w _⟩
theorem Jm.lc {w : World} {a : JA} {j : Jb} (h : Jm w a j) : Lc a j.no j.ba w := ⟨h.c0, h.c1_, h.c2_, h.c3_, h.c4_⟩
theorem Lc.below {w w' : World} {a : JA} {x y : Int} (h : Lc a x y w) (hb : Below w.heap.size w w') (hl : a.J < w.heap.size) : Lc a x y w' :=
  ⟨(hb.cell (p := ⟨a.J, 0, none⟩) hl).trans h.c0, (hb.cell (p := ⟨a.J, 1, none⟩) hl).trans h.c1, (hb.cell (p := ⟨a.J, 2, none⟩) hl).trans h.c2, (hb.cell (p := ⟨a.J, 3, none⟩) hl).trans h.c3, (hb.cell (p := ⟨a.J, 4, none⟩) hl).trans h.c4⟩
theorem Mb.low {w w' : World} {B fuel : Nat} {m : Mc} {v : Value} (h : Mb w B m v fuel) (k : Below w.heap.size w w') : Mb w' B m v fuel := Mb_kp h (G := fun _ _ => False) (Kp.of_below k) (fun _ h => h)
theorem Sb_low {w w' : World} {b : Nat} {s : CH.Sn} {ad : Option Addr} {cap X o : Nat} (h : CH.Sb w b s ad cap X o) (k : Below w.heap.size w w') : CH.Sb w' b s ad cap X o := Sb_kp h (G := fun _ _ => False) (Kp.of_below k) (fun _ h => h) (fun _ _ _ h => h)
/-- what a clone leans on of elder things is never turned by the elder one's calls -/
structure JC (w : World) (a : JA) (j : Jb) (b : JA) (w' : World) : Prop where
  jm : Jm w' b j
  bl : Below w.heap.size w w'
  hJ : w.heap.size ≤ b.J
  g : ∀ x i, b.g j x i → w.heap.size ≤ x
  d : ∀ x i, b.d x i → w.heap.size ≤ x ∨ ¬ a.g j x i
theorem JC.of {w w' : World} {a : JA} {j : Jb} {J M L A : Nat} {d1 d2 : Option Addr} (h : Jm w a j) (hb : Below w.heap.size w w') (hJ : w.heap.size ≤ J) (hM : w.heap.size ≤ M) (hL : w.heap.size ≤ L) (hA : w.heap.size ≤ A) (hne : L ≠ A)
    (jb : w'.heap[J]? = some (.cells #[.pointer (some ⟨M, 0, none⟩), .int .i64 j.no, .int .i64 j.ba, .pointer (some ⟨L, 0, none⟩), .pointer (some ⟨A, 0, none⟩)] 126 (0, 0))) (mb : Mb w' M j.m a.v j.fu) (lg : CH.Sb w' L j.lg d1 j.lg.R.length a.X1 a.o1) (ar : CH.Sb w' A j.ar d2 j.ar.R.length a.X2 a.o2) :
    JC w a j ⟨J, M, L, A, a.v, d1, j.lg.R.length, a.X1, a.o1, d2, j.ar.R.length, a.X2, a.o2⟩ w' := by
  have k1 := h.lg.rs.le
  have k2 := h.ar.rs.le
  refine ⟨⟨jb, mb, h.cd.keep (by obtain ⟨cur, hc⟩ := h.cd.typ; exact hb.block _ (lt_of_block hc)), lg, ar, hne, fun x y => h.xx (by have : 0 < j.lg.R.length := x; omega) (by have : 0 < j.ar.R.length := y; omega)⟩, hb, hJ, ?_, ?_⟩
  · rintro x i (e | e | e | ⟨e, q1, q2⟩ | ⟨e, q1, q2⟩)
    · exact e ▸ hM
    · exact e ▸ hL
    · exact e ▸ hA
    · exact absurd q2 (Nat.not_lt.2 q1)
    · exact absurd q2 (Nat.not_lt.2 q1)
  · rintro x i (e | e | e | e | e | ⟨e, q1, q2⟩ | ⟨e, q1, q2⟩)
    · exact .inl (e ▸ hJ)
    · exact .inl (e ▸ hM)
    · exact .inl (e ▸ hL)
    · exact .inl (e ▸ hA)
    · refine .inr ?_
      obtain ⟨cur, hc⟩ := h.cd.typ
      have e : x = cxB a.v := e
      rw [← e] at hc
      rintro (f | f | f | ⟨f, s1, s2⟩ | ⟨f, s1, s2⟩)
      · exact CH.blk_ne hc h.mb.blk (by decide) f
      · exact CH.blk_ne hc h.lg.cb (by decide) f
      · exact CH.blk_ne hc h.ar.cb (by decide) f
      · obtain ⟨cu, hd⟩ := h.x1 (by omega)
        exact CH.blk_ne hc hd (by decide) f
      · obtain ⟨cu, hd⟩ := h.x2 (by omega)
        exact CH.blk_ne hc hd (by decide) f
    · refine .inr ?_
      have e : x = a.X1 := e
      have q1 : a.o1 ≤ i := q1
      have q2 : i < a.o1 + j.lg.R.length := q2
      obtain ⟨cur, hc⟩ := h.x1 (by omega)
      rw [← e] at hc
      rintro (f | f | f | ⟨f, s1, s2⟩ | ⟨f, s1, s2⟩)
      · exact CH.blk_ne hc h.mb.blk (by decide) f
      · exact CH.blk_ne hc h.lg.cb (by decide) f
      · exact CH.blk_ne hc h.ar.cb (by decide) f
      · omega
      · exact h.xx (by omega) (by omega) (e.symm.trans f)
    · refine .inr ?_
      have e : x = a.X2 := e
      have q1 : a.o2 ≤ i := q1
      have q2 : i < a.o2 + j.ar.R.length := q2
      obtain ⟨cur, hc⟩ := h.x2 (by omega)
      rw [← e] at hc
      rintro (f | f | f | ⟨f, s1, s2⟩ | ⟨f, s1, s2⟩)
      · exact CH.blk_ne hc h.mb.blk (by decide) f
      · exact CH.blk_ne hc h.lg.cb (by decide) f
      · exact CH.blk_ne hc h.ar.cb (by decide) f
      · exact h.xx (by omega) (by omega) (f.symm.trans e)
      · omega
set_option maxHeartbeats 8000000 in
theorem jclone_any {w : World} {a : JA} {j : Jb} (h : Jm w a j) (hk : j.ok) :
    Calls Tryz.prog 31 #[.pointer (some ⟨a.J, 0, none⟩)] w fun e w' => ∃ b, e = .returned (.pointer (some ⟨b.J, 0, none⟩)) ∧ JC w a j b w' := by
  have hv1 : a.v.oneCell' = true := by
    obtain ⟨b, off, cap, cur, hv, _⟩ := h.cd
    rw [hv]; rfl
  have HCM : Hid (∀ V, Below w.heap.size w V → Calls Tryz.prog 70 #[.pointer (some ⟨a.M, 0, none⟩)] V fun e w' => ∃ B, e = .returned (.pointer (some ⟨B, 0, none⟩)) ∧ V.heap.size ≤ B ∧ B < w'.heap.size ∧ Mb w' B j.m a.v j.fu ∧ Below V.heap.size V w') := hide fun V hV =>
    (mclone_r (Mb.low h.mb hV) hv1).mono (fun e w' hh => ⟨_, hh.1, Nat.le_refl _, hh.2.1.lt, hh.2.1, hh.2.2⟩)
  have HCL : Hid (∀ V, Below w.heap.size w V → Calls Tryz.prog 71 #[.pointer (some ⟨a.L, 0, none⟩)] V fun e w' => ∃ B d, e = .returned (.pointer (some ⟨B, 0, none⟩)) ∧ V.heap.size ≤ B ∧ B < w'.heap.size ∧ CH.Sb w' B j.lg d j.lg.R.length a.X1 a.o1 ∧ Below V.heap.size V w') := hide fun V hV =>
    (CH.sclone_any hk.lg.l (Sb_low h.lg hV)).mono (fun e w' hh => by obtain ⟨h1, ⟨d, h2⟩, h3⟩ := hh; exact ⟨_, d, h1, Nat.le_refl _, h2.lt, h2, h3⟩)
  have HCA : Hid (∀ V, Below w.heap.size w V → Calls Tryz.prog 71 #[.pointer (some ⟨a.A, 0, none⟩)] V fun e w' => ∃ B d, e = .returned (.pointer (some ⟨B, 0, none⟩)) ∧ V.heap.size ≤ B ∧ B < w'.heap.size ∧ CH.Sb w' B j.ar d j.ar.R.length a.X2 a.o2 ∧ Below V.heap.size V w') := hide fun V hV =>
    (CH.sclone_any hk.ar.l (Sb_low h.ar hV)).mono (fun e w' hh => by obtain ⟨h1, ⟨d, h2⟩, h3⟩ := hh; exact ⟨_, d, h1, Nat.le_refl _, h2.lt, h2, h3⟩)
  have HJC := hide (fun (w' : World) (J M L A : Nat) (d1 d2 : Option Addr) (hb : Below w.heap.size w w') (h1 : w.heap.size ≤ J) (h2 : w.heap.size ≤ M) (h3 : w.heap.size ≤ L) (h4 : w.heap.size ≤ A) (h5 : L ≠ A) => JC.of (J := J) (M := M) (L := L) (A := A) (d1 := d1) (d2 := d2) h hb h1 h2 h3 h4 h5)
  have hJl := lt_of_block h.jb
  have HLc := hide (fun (V : World) (hV : Below w.heap.size w V) => h.lc.below hV hJl)
  have HB0 : Hid (Below w.heap.size w w.drew) := hide (CH.below_drew (Below.refl _ w))
  generalize hno : j.no = jno at *
  generalize hba : j.ba = jba at *
  have hs0 : w.heap.size ≤ w.drew.heap.size := HB0.out.size
  clear h hk hno hba hv1 hJl
  go_enter Tryz.func31, Tryz.ntmps31
  go_upto_region 1 with fail
  refine wp_region_held_drew (S := fun V => Lc a jno jba V) (by kernel_rfl) (HLc.out _ HB0.out) (fun hHeld => ?_)
  refine wpAnyH_take (i := 0) (v := .pointer (some ⟨a.J, 0, none⟩)) rfl (by kernel_rfl) (by kernel_rfl) (by kernel_rfl) (fun _ _ _ h => h) (Or.inl ⟨by kernel_rfl, fun w1 hSw => by clear hHeld; have k0 := hSw.c0; have k1 := hSw.c1; have k2 := hSw.c2; have k3 := hSw.c3; have k4 := hSw.c4; go_simp⟩) hHeld ?_
  try simp only [Act.put]
  try simp only [List.getElem_toArray]
  try simp only [List.getElem_cons_succ]
  try simp only [List.getElem_cons_zero]
  try simp only [List.setIfInBounds_toArray]
  try simp only [List.set_cons_succ, List.set_cons_zero]
  refine wpAnyH_take (i := 1) (v := .pointer (some ⟨a.J, 0, none⟩)) rfl (by kernel_rfl) (by kernel_rfl) (by kernel_rfl) (fun _ _ _ h => h) (Or.inl ⟨by kernel_rfl, fun w1 hSw => by clear hHeld; have k0 := hSw.c0; have k1 := hSw.c1; have k2 := hSw.c2; have k3 := hSw.c3; have k4 := hSw.c4; go_simp⟩) hHeld ?_
  try simp only [Act.put]
  try simp only [List.getElem_toArray]
  try simp only [List.getElem_cons_succ]
  try simp only [List.getElem_cons_zero]
  try simp only [List.setIfInBounds_toArray]
  try simp only [List.set_cons_succ, List.set_cons_zero]
  refine wpAnyH_take (i := 2) (v := .pointer (some ⟨a.J, 0, none⟩)) rfl (by kernel_rfl) (by kernel_rfl) (by kernel_rfl) (fun _ _ _ h => h) (Or.inl ⟨by kernel_rfl, fun w1 hSw => by clear hHeld; have k0 := hSw.c0; have k1 := hSw.c1; have k2 := hSw.c2; have k3 := hSw.c3; have k4 := hSw.c4; go_simp⟩) hHeld ?_
  try simp only [Act.put]
  try simp only [List.getElem_toArray]
  try simp only [List.getElem_cons_succ]
  try simp only [List.getElem_cons_zero]
  try simp only [List.setIfInBounds_toArray]
  try simp only [List.set_cons_succ, List.set_cons_zero]
  refine wpAnyH_take (i := 3) (v := .pointer (some ⟨a.M, 0, none⟩)) rfl (by kernel_rfl) (by kernel_rfl) (by kernel_rfl) (fun _ _ _ h => h) (Or.inl ⟨by kernel_rfl, fun w1 hSw => by clear hHeld; have k0 := hSw.c0; have k1 := hSw.c1; have k2 := hSw.c2; have k3 := hSw.c3; have k4 := hSw.c4; go_simp⟩) hHeld ?_
  try simp only [Act.put]
  try simp only [List.getElem_toArray]
  try simp only [List.getElem_cons_succ]
  try simp only [List.getElem_cons_zero]
  try simp only [List.setIfInBounds_toArray]
  try simp only [List.set_cons_succ, List.set_cons_zero]
  refine wpAnyH_take (i := 5) (v := .pointer (some ⟨a.J, 0, none⟩)) rfl (by kernel_rfl) (by kernel_rfl) (by kernel_rfl) (fun _ _ _ h => h) (Or.inl ⟨by kernel_rfl, fun w1 hSw => by clear hHeld; have k0 := hSw.c0; have k1 := hSw.c1; have k2 := hSw.c2; have k3 := hSw.c3; have k4 := hSw.c4; go_simp⟩) hHeld ?_
  try simp only [Act.put]
  try simp only [List.getElem_toArray]
  try simp only [List.getElem_cons_succ]
  try simp only [List.getElem_cons_zero]
  try simp only [List.setIfInBounds_toArray]
  try simp only [List.set_cons_succ, List.set_cons_zero]
  refine wpAnyH_take (i := 6) (v := .pointer (some ⟨a.J, 0, none⟩)) rfl (by kernel_rfl) (by kernel_rfl) (by kernel_rfl) (fun _ _ _ h => h) (Or.inl ⟨by kernel_rfl, fun w1 hSw => by clear hHeld; have k0 := hSw.c0; have k1 := hSw.c1; have k2 := hSw.c2; have k3 := hSw.c3; have k4 := hSw.c4; go_simp⟩) hHeld ?_
  try simp only [Act.put]
  try simp only [List.getElem_toArray]
  try simp only [List.getElem_cons_succ]
  try simp only [List.getElem_cons_zero]
  try simp only [List.setIfInBounds_toArray]
  try simp only [List.set_cons_succ, List.set_cons_zero]
  refine wpAnyH_take (i := 7) (v := .pointer (some ⟨a.J, 1, none⟩)) rfl (by kernel_rfl) (by kernel_rfl) (by kernel_rfl) (fun _ _ _ h => h) (Or.inl ⟨by kernel_rfl, fun w1 hSw => by clear hHeld; have k0 := hSw.c0; have k1 := hSw.c1; have k2 := hSw.c2; have k3 := hSw.c3; have k4 := hSw.c4; go_simp⟩) hHeld ?_
  try simp only [Act.put]
  try simp only [List.getElem_toArray]
  try simp only [List.getElem_cons_succ]
  try simp only [List.getElem_cons_zero]
  try simp only [List.setIfInBounds_toArray]
  try simp only [List.set_cons_succ, List.set_cons_zero]
  refine wpAnyH_take (i := 8) (v := .int .i64 jno) rfl (by kernel_rfl) (by kernel_rfl) (by kernel_rfl) (fun _ _ _ h => h) (Or.inl ⟨by kernel_rfl, fun w1 hSw => by clear hHeld; have k0 := hSw.c0; have k1 := hSw.c1; have k2 := hSw.c2; have k3 := hSw.c3; have k4 := hSw.c4; go_simp⟩) hHeld ?_
  try simp only [Act.put]
  try simp only [List.getElem_toArray]
  try simp only [List.getElem_cons_succ]
  try simp only [List.getElem_cons_zero]
  try simp only [List.setIfInBounds_toArray]
  try simp only [List.set_cons_succ, List.set_cons_zero]
  refine wpAnyH_take (i := 9) (v := .pointer (some ⟨a.J, 0, none⟩)) rfl (by kernel_rfl) (by kernel_rfl) (by kernel_rfl) (fun _ _ _ h => h) (Or.inl ⟨by kernel_rfl, fun w1 hSw => by clear hHeld; have k0 := hSw.c0; have k1 := hSw.c1; have k2 := hSw.c2; have k3 := hSw.c3; have k4 := hSw.c4; go_simp⟩) hHeld ?_
  try simp only [Act.put]
  try simp only [List.getElem_toArray]
  try simp only [List.getElem_cons_succ]
  try simp only [List.getElem_cons_zero]
  try simp only [List.setIfInBounds_toArray]
  try simp only [List.set_cons_succ, List.set_cons_zero]
  refine wpAnyH_take (i := 10) (v := .pointer (some ⟨a.J, 0, none⟩)) rfl (by kernel_rfl) (by kernel_rfl) (by kernel_rfl) (fun _ _ _ h => h) (Or.inl ⟨by kernel_rfl, fun w1 hSw => by clear hHeld; have k0 := hSw.c0; have k1 := hSw.c1; have k2 := hSw.c2; have k3 := hSw.c3; have k4 := hSw.c4; go_simp⟩) hHeld ?_
  try simp only [Act.put]
  try simp only [List.getElem_toArray]
  try simp only [List.getElem_cons_succ]
  try simp only [List.getElem_cons_zero]
  try simp only [List.setIfInBounds_toArray]
  try simp only [List.set_cons_succ, List.set_cons_zero]
  refine wpAnyH_take (i := 11) (v := .pointer (some ⟨a.J, 2, none⟩)) rfl (by kernel_rfl) (by kernel_rfl) (by kernel_rfl) (fun _ _ _ h => h) (Or.inl ⟨by kernel_rfl, fun w1 hSw => by clear hHeld; have k0 := hSw.c0; have k1 := hSw.c1; have k2 := hSw.c2; have k3 := hSw.c3; have k4 := hSw.c4; go_simp⟩) hHeld ?_
  try simp only [Act.put]
  try simp only [List.getElem_toArray]
  try simp only [List.getElem_cons_succ]
  try simp only [List.getElem_cons_zero]
  try simp only [List.setIfInBounds_toArray]
  try simp only [List.set_cons_succ, List.set_cons_zero]
  refine wpAnyH_take (i := 12) (v := .int .i64 jba) rfl (by kernel_rfl) (by kernel_rfl) (by kernel_rfl) (fun _ _ _ h => h) (Or.inl ⟨by kernel_rfl, fun w1 hSw => by clear hHeld; have k0 := hSw.c0; have k1 := hSw.c1; have k2 := hSw.c2; have k3 := hSw.c3; have k4 := hSw.c4; go_simp⟩) hHeld ?_
  try simp only [Act.put]
  try simp only [List.getElem_toArray]
  try simp only [List.getElem_cons_succ]
  try simp only [List.getElem_cons_zero]
  try simp only [List.setIfInBounds_toArray]
  try simp only [List.set_cons_succ, List.set_cons_zero]
  refine wpAnyH_take (i := 13) (v := .pointer (some ⟨a.J, 0, none⟩)) rfl (by kernel_rfl) (by kernel_rfl) (by kernel_rfl) (fun _ _ _ h => h) (Or.inl ⟨by kernel_rfl, fun w1 hSw => by clear hHeld; have k0 := hSw.c0; have k1 := hSw.c1; have k2 := hSw.c2; have k3 := hSw.c3; have k4 := hSw.c4; go_simp⟩) hHeld ?_
  try simp only [Act.put]
  try simp only [List.getElem_toArray]
  try simp only [List.getElem_cons_succ]
  try simp only [List.getElem_cons_zero]
  try simp only [List.setIfInBounds_toArray]
  try simp only [List.set_cons_succ, List.set_cons_zero]
  refine wpAnyH_take (i := 14) (v := .pointer (some ⟨a.J, 0, none⟩)) rfl (by kernel_rfl) (by kernel_rfl) (by kernel_rfl) (fun _ _ _ h => h) (Or.inl ⟨by kernel_rfl, fun w1 hSw => by clear hHeld; have k0 := hSw.c0; have k1 := hSw.c1; have k2 := hSw.c2; have k3 := hSw.c3; have k4 := hSw.c4; go_simp⟩) hHeld ?_
  try simp only [Act.put]
  try simp only [List.getElem_toArray]
  try simp only [List.getElem_cons_succ]
  try simp only [List.getElem_cons_zero]
  try simp only [List.setIfInBounds_toArray]
  try simp only [List.set_cons_succ, List.set_cons_zero]
  refine wpAnyH_take (i := 15) (v := .pointer (some ⟨a.J, 3, none⟩)) rfl (by kernel_rfl) (by kernel_rfl) (by kernel_rfl) (fun _ _ _ h => h) (Or.inl ⟨by kernel_rfl, fun w1 hSw => by clear hHeld; have k0 := hSw.c0; have k1 := hSw.c1; have k2 := hSw.c2; have k3 := hSw.c3; have k4 := hSw.c4; go_simp⟩) hHeld ?_
  try simp only [Act.put]
  try simp only [List.getElem_toArray]
  try simp only [List.getElem_cons_succ]
  try simp only [List.getElem_cons_zero]
  try simp only [List.setIfInBounds_toArray]
  try simp only [List.set_cons_succ, List.set_cons_zero]
  refine wpAnyH_take (i := 16) (v := .pointer (some ⟨a.L, 0, none⟩)) rfl (by kernel_rfl) (by kernel_rfl) (by kernel_rfl) (fun _ _ _ h => h) (Or.inl ⟨by kernel_rfl, fun w1 hSw => by clear hHeld; have k0 := hSw.c0; have k1 := hSw.c1; have k2 := hSw.c2; have k3 := hSw.c3; have k4 := hSw.c4; go_simp⟩) hHeld ?_
  try simp only [Act.put]
  try simp only [List.getElem_toArray]
  try simp only [List.getElem_cons_succ]
  try simp only [List.getElem_cons_zero]
  try simp only [List.setIfInBounds_toArray]
  try simp only [List.set_cons_succ, List.set_cons_zero]
  refine wpAnyH_take (i := 18) (v := .pointer (some ⟨a.J, 0, none⟩)) rfl (by kernel_rfl) (by kernel_rfl) (by kernel_rfl) (fun _ _ _ h => h) (Or.inl ⟨by kernel_rfl, fun w1 hSw => by clear hHeld; have k0 := hSw.c0; have k1 := hSw.c1; have k2 := hSw.c2; have k3 := hSw.c3; have k4 := hSw.c4; go_simp⟩) hHeld ?_
  try simp only [Act.put]
  try simp only [List.getElem_toArray]
  try simp only [List.getElem_cons_succ]
  try simp only [List.getElem_cons_zero]
  try simp only [List.setIfInBounds_toArray]
  try simp only [List.set_cons_succ, List.set_cons_zero]
  refine wpAnyH_take (i := 19) (v := .pointer (some ⟨a.J, 0, none⟩)) rfl (by kernel_rfl) (by kernel_rfl) (by kernel_rfl) (fun _ _ _ h => h) (Or.inl ⟨by kernel_rfl, fun w1 hSw => by clear hHeld; have k0 := hSw.c0; have k1 := hSw.c1; have k2 := hSw.c2; have k3 := hSw.c3; have k4 := hSw.c4; go_simp⟩) hHeld ?_
  try simp only [Act.put]
  try simp only [List.getElem_toArray]
  try simp only [List.getElem_cons_succ]
  try simp only [List.getElem_cons_zero]
  try simp only [List.setIfInBounds_toArray]
  try simp only [List.set_cons_succ, List.set_cons_zero]
  refine wpAnyH_take (i := 20) (v := .pointer (some ⟨a.J, 4, none⟩)) rfl (by kernel_rfl) (by kernel_rfl) (by kernel_rfl) (fun _ _ _ h => h) (Or.inl ⟨by kernel_rfl, fun w1 hSw => by clear hHeld; have k0 := hSw.c0; have k1 := hSw.c1; have k2 := hSw.c2; have k3 := hSw.c3; have k4 := hSw.c4; go_simp⟩) hHeld ?_
  try simp only [Act.put]
  try simp only [List.getElem_toArray]
  try simp only [List.getElem_cons_succ]
  try simp only [List.getElem_cons_zero]
  try simp only [List.setIfInBounds_toArray]
  try simp only [List.set_cons_succ, List.set_cons_zero]
  refine wpAnyH_take (i := 21) (v := .pointer (some ⟨a.A, 0, none⟩)) rfl (by kernel_rfl) (by kernel_rfl) (by kernel_rfl) (fun _ _ _ h => h) (Or.inl ⟨by kernel_rfl, fun w1 hSw => by clear hHeld; have k0 := hSw.c0; have k1 := hSw.c1; have k2 := hSw.c2; have k3 := hSw.c3; have k4 := hSw.c4; go_simp⟩) hHeld ?_
  try simp only [Act.put]
  try simp only [List.getElem_toArray]
  try simp only [List.getElem_cons_succ]
  try simp only [List.getElem_cons_zero]
  try simp only [List.setIfInBounds_toArray]
  try simp only [List.set_cons_succ, List.set_cons_zero]
  refine wpAnyH_ready (rs := [4]) (by kernel_rfl) (by simp) ?_
  refine AllReadyH.cons rfl (fun K hK => ?_) AllReadyH.nil
  go_simp
  refine (HCM.out _ HB0.out).mono ?_
  rintro e V1 ⟨BM, rfl, hgeM, hltM, hobM, hb⟩
  have hs1 := hb.size
  have HB1 := hide (HB0.out.trans (hb.mono HB0.out.size))
  try (have HOL := hide (Sb_low HOL.out hb))
  try (have HOA := hide (Sb_low HOA.out hb))
  have HOM := hide hobM
  clear hb hobM
  refine hK.out _ _ (HLc.out _ HB1.out) (fun hHeld => ?_)
  clear hK K
  try simp only [Act.put]
  try simp only [List.getElem_toArray]
  try simp only [List.getElem_cons_succ]
  try simp only [List.getElem_cons_zero]
  try simp only [List.setIfInBounds_toArray]
  try simp only [List.set_cons_succ, List.set_cons_zero]
  refine wpAnyH_ready (rs := [17]) (by kernel_rfl) (by simp) ?_
  refine AllReadyH.cons rfl (fun K hK => ?_) AllReadyH.nil
  go_simp
  refine (HCL.out _ HB1.out).mono ?_
  rintro e V2 ⟨BL, dL, rfl, hgeL, hltL, hobL, hb⟩
  have hs2 := hb.size
  have HB2 := hide (HB1.out.trans (hb.mono HB1.out.size))
  try (have HOM := hide (Mb.low HOM.out hb))
  try (have HOA := hide (Sb_low HOA.out hb))
  have HOL := hide hobL
  clear hb hobL
  refine hK.out _ _ (HLc.out _ HB2.out) (fun hHeld => ?_)
  clear hK K
  try simp only [Act.put]
  try simp only [List.getElem_toArray]
  try simp only [List.getElem_cons_succ]
  try simp only [List.getElem_cons_zero]
  try simp only [List.setIfInBounds_toArray]
  try simp only [List.set_cons_succ, List.set_cons_zero]
  refine wpAnyH_ready (rs := [22]) (by kernel_rfl) (by simp) ?_
  refine AllReadyH.cons rfl (fun K hK => ?_) AllReadyH.nil
  go_simp
  refine (HCA.out _ HB2.out).mono ?_
  rintro e V3 ⟨BA, dA, rfl, hgeA, hltA, hobA, hb⟩
  have hs3 := hb.size
  have HB3 := hide (HB2.out.trans (hb.mono HB2.out.size))
  try (have HOM := hide (Mb.low HOM.out hb))
  try (have HOL := hide (Sb_low HOL.out hb))
  have HOA := hide hobA
  clear hb hobA
  refine hK.out _ _ (HLc.out _ HB3.out) (fun hHeld => ?_)
  clear hK K
  try simp only [Act.put]
  try simp only [List.getElem_toArray]
  try simp only [List.getElem_cons_succ]
  try simp only [List.getElem_cons_zero]
  try simp only [List.setIfInBounds_toArray]
  try simp only [List.set_cons_succ, List.set_cons_zero]
  refine wpAnyH_take (i := 23) (v := .agg #[.pointer (some ⟨BM, 0, none⟩), .int .i64 jno, .int .i64 jba, .pointer (some ⟨BL, 0, none⟩), .pointer (some ⟨BA, 0, none⟩)]) rfl (by kernel_rfl) (by kernel_rfl) (by kernel_rfl) (fun _ _ _ h => h) (Or.inl ⟨by kernel_rfl, fun w1 hSw => by clear hHeld; have k0 := hSw.c0; have k1 := hSw.c1; have k2 := hSw.c2; have k3 := hSw.c3; have k4 := hSw.c4; go_simp⟩) hHeld ?_
  try simp only [Act.put]
  try simp only [List.getElem_toArray]
  try simp only [List.getElem_cons_succ]
  try simp only [List.getElem_cons_zero]
  try simp only [List.setIfInBounds_toArray]
  try simp only [List.set_cons_succ, List.set_cons_zero]
  refine wpAnyH_ready (rs := [24]) (by kernel_rfl) (by simp) ?_
  refine AllReadyH.cons rfl (fun K hK => ?_) AllReadyH.nil
  go_simp
  have hbx := CH.below_alloc V3 (.cells #[.pointer (some ⟨BM, 0, none⟩), .int .i64 jno, .int .i64 jba, .pointer (some ⟨BL, 0, none⟩), .pointer (some ⟨BA, 0, none⟩)] 126)
  have HB4 := hide (HB3.out.trans (hbx.mono HB3.out.size))
  have HNJ := hide (heap_alloc_new V3 (.cells #[.pointer (some ⟨BM, 0, none⟩), .int .i64 jno, .int .i64 jba, .pointer (some ⟨BL, 0, none⟩), .pointer (some ⟨BA, 0, none⟩)] 126))
  have HOM := hide (Mb.low HOM.out hbx)
  have HOL := hide (Sb_low HOL.out hbx)
  have HOA := hide (Sb_low HOA.out hbx)
  clear hbx
  refine hK.out _ _ (HLc.out _ HB4.out) (fun hHeld => ?_)
  clear hK K
  try simp only [Act.put]
  try simp only [List.getElem_toArray]
  try simp only [List.getElem_cons_succ]
  try simp only [List.getElem_cons_zero]
  try simp only [List.setIfInBounds_toArray]
  try simp only [List.set_cons_succ, List.set_cons_zero]
  refine wpAnyH_take (i := 25) (v := .pointer (some ⟨V3.heap.size, 0, none⟩)) rfl (by kernel_rfl) (by kernel_rfl) (by kernel_rfl) (fun _ _ _ h => h) (Or.inl ⟨by kernel_rfl, fun w1 hSw => by clear hHeld; have k0 := hSw.c0; have k1 := hSw.c1; have k2 := hSw.c2; have k3 := hSw.c3; have k4 := hSw.c4; go_simp⟩) hHeld ?_
  try simp only [Act.put]
  try simp only [List.getElem_toArray]
  try simp only [List.getElem_cons_succ]
  try simp only [List.getElem_cons_zero]
  try simp only [List.setIfInBounds_toArray]
  try simp only [List.set_cons_succ, List.set_cons_zero]
  refine wpAnyH_done (by kernel_rfl) ?_ _
  go_wp2_with fail
  go_ret
  exact ⟨_, rfl, HJC.out _ _ _ _ _ _ _ HB4.out (by omega) (by omega) (by omega) (by omega) (by omega) HNJ.out HOM.out HOL.out HOA.out⟩
end Go.Proofs.YtkfnedhllfdghaaGreatDoor.RN
end

section
namespace Go.Proofs.YtkfnedhllfdghaaGreatDoor.RN
open Go.RowKit Go.Shelf
set_option maxRecDepth 20000

/-- a runner's clone: what it may turn is new, what it leans on of elder things the elder one never turns -/
structure RC (w : World) (a : RA) (r : Rn) (b : RA) (w' : World) : Prop where
  rm : Rm w' b r
  bl : Below w.heap.size w w'
  g : ∀ x i, b.g r x i → w.heap.size ≤ x
  d : ∀ x i, b.d r x i → w.heap.size ≤ x ∨ ¬ a.g r x i
theorem RC.of {w w' : World} {a : RA} {r : Rn} {R C n0 : Nat} {tv : Value} {ja : JA} (h : Rm w a r) (hb : Below w.heap.size w w') (hR : w.heap.size ≤ R) (hC : w.heap.size ≤ C) (hn : w.heap.size ≤ n0)
    (rb : w'.heap[R]? = some (.cells (rcs ⟨R, C, tv, ja⟩ r) 84 (0, 0))) (cb : SE.Cb w' C r.c) (tl : w'.ownsRow n0 98 13 tv r.T.length (ecs r.T))
    (j : ∀ j, r.j = some j → Jm w' ja j ∧ (∀ x i, ja.g j x i → w.heap.size ≤ x) ∧ (∀ x i, ja.d x i → w.heap.size ≤ x ∨ ¬ a.ja.g j x i)) : RC w a r ⟨R, C, tv, ja⟩ w' := by
  have g : ∀ x i, RA.g ⟨R, C, tv, ja⟩ r x i → w.heap.size ≤ x := by
    rintro x i (e | e | e | ⟨k, h1, h2⟩)
    · exact e ▸ hR
    · exact e ▸ hC
    · exact Nat.le_trans hn (tl.lt x e).1
    · exact (j k h1).2.1 x i h2
  have h' := h.below hb
  refine ⟨⟨rb, cb, fun k hk => (j k hk).1, ?_, h'.tb, fun x i hx => ?_⟩, hb, g, ?_⟩
  · refine ⟨tl.1, ?_⟩
    rcases tl.2 with h2 | ⟨g0, cap, cur, h3, _, h4⟩
    · exact .inl h2
    · exact .inr ⟨g0, cap, cur, h3, Nat.zero_le _, h4⟩
  · have := g x i hx
    have h1 := h.tb.lt64
    have h2 := h.tb.lt10
    omega
  · rintro x i (e | e | e | ⟨k, h1, h2⟩ | e | e)
    · exact .inl (e ▸ hR)
    · exact .inl (e ▸ hC)
    · exact .inl (Nat.le_trans hn (tl.lt x e).1)
    · rcases (j k h1).2.2 x i h2 with h3 | h3
      · exact .inl h3
      · refine .inr ?_
        have hJ := (j k h1).1
        rintro (f | f | f | ⟨k', f1, f2⟩)
        · subst f
          exact hJ.no_d h'.rb (by decide) (by decide) (by decide) (by decide) (by decide) h2
        · subst f
          exact hJ.no_d h'.cb (by decide) (by decide) (by decide) (by decide) (by decide) h2
        · obtain ⟨cs, hc⟩ := own_blk h'.tl f
          exact hJ.no_d hc (by decide) (by decide) (by decide) (by decide) (by decide) h2
        · rw [h1] at f1
          cases f1
          exact h3 f2
    · exact .inr (fun hg => (h.cl x i hg).1 e)
    · exact .inr (fun hg => (h.cl x i hg).2 e)
structure Ck (a : RA) (V : World) : Prop where
  c5 : V.cell? ⟨a.R, 5, none⟩ = some (.pointer (some ⟨a.C, 0, none⟩))
  c7 : V.cell? ⟨a.R, 7, none⟩ = some a.tv
set_option maxHeartbeats 8000000 in
theorem rnclone_any {w : World} {a : RA} {r : Rn} (h : Rm w a r) (hk : r.ok) (hT : r.T.length ≤ 1000000000) :
    Calls Tryz.prog 10 #[.pointer (some ⟨a.R, 0, none⟩)] w fun e w' => ∃ b, e = .returned (.pointer (some ⟨b.R, 0, none⟩)) ∧ RC w a r b w' := by
  obtain ⟨pj, hp0, hp1, hp2⟩ := jp_ptr a.ja r.j
  obtain ⟨ad, cap, htv⟩ := CH.own_slice h.tl
  have hone : (rcs a r).all (·.oneCell') = true := by
    unfold rcs
    rw [hp0, htv]
    simp [Value.oneCell']
  have HCC : Hid (∀ V, Below w.heap.size w V → Calls Tryz.prog 29 #[.pointer (some ⟨a.C, 0, none⟩)] V fun e w' => ∃ B, e = .returned (.pointer (some ⟨B, 0, none⟩)) ∧ V.heap.size ≤ B ∧ SE.Cb w' B r.c ∧ Below V.heap.size V w') := hide fun V hV =>
    (SE.cclone_any (h.below hV).cb).mono (fun e w' hh => ⟨_, hh.1, Nat.le_refl _, hh.2.1, hh.2.2⟩)
  have HCE : Hid (∀ V, Below w.heap.size w V → Calls Tryz.prog 30 #[a.tv] V fun e w' => ∃ v', e = .returned v' ∧ w'.ownsRow V.heap.size 98 13 v' r.T.length (ecs r.T) ∧ Below V.heap.size V w') := hide fun V hV => eclone_any (h.below hV).tl (by omega)
  have HCk := hide (fun (V : World) (hV : Below w.heap.size w V) => (⟨(h.below hV).c5, (h.below hV).c7⟩ : Ck a V))
  have HH := hide h
  have HK := hide hk
  have hlt := lt_of_block h.rb
  have hrb := h.rb
  have HP0 := hide hp0
  have HP1 := hide hp1
  have HP2 := hide hp2
  go_enter Tryz.func10, Tryz.ntmps10
  refine wp_seq (wp_region_list ?_)
  refine Great.wpList_runTo rfl _ rfl (.pointer none) w (by kernel_rfl) ?_
  show Code.wp _ _ _ _ _
  refine wp_seq (wp_region_list ?_)
  refine Great.wpList_runTo rfl _ rfl (.pointer (some ⟨a.R, 0, none⟩)) w (by kernel_rfl) ?_
  refine Great.wpList_runTo rfl _ rfl (.pointer (some ⟨a.R, 0, none⟩)) w (by kernel_rfl) ?_
  refine wpList_load_row rfl 84 _ rfl a.R (by kernel_rfl) 84 (rcs a r) (0, 0) _ hrb Tryz.underlying84 rfl (by kernel_rfl) ?_
  refine Great.wpList_allocTo rfl _ rfl (.pointer (some ⟨w.heap.size, 0, none⟩)) (.cells #[.int .i64 0, .int .i64 0, .int .i64 0, .int .i64 0, .int .i64 0, .pointer none, .pointer none, .slice none 0 0] 84) (by kernel_rfl) ?_
  refine wpList_store_row rfl 84 _ _ rfl w.heap.size (rcs a r) (by kernel_rfl) (by kernel_rfl) 84 #[.int .i64 0, .int .i64 0, .int .i64 0, .int .i64 0, .int .i64 0, .pointer none, .pointer none, .slice none 0 0] (heap_alloc_new w _) (by kernel_rfl) rfl hone ?_
  show Code.wp _ _ _ _ _
  rw [World.setRow_alloc_new]
  have hb1 := CH.below_alloc w (.cells (rcs a r) 84)
  have hn1 := heap_alloc_new w (.cells (rcs a r) 84)
  have HB0 : Hid (Below w.heap.size w (w.alloc (.cells (rcs a r) 84)).drew) := hide (CH.below_drew hb1)
  have HR0 : Hid ((w.alloc (.cells (rcs a r) 84)).drew.heap[w.heap.size]? = some (.cells (rcs a r) 84 (0, 0))) := hide hn1
  have hs0 : (w.alloc (.cells (rcs a r) 84)).drew.heap.size = w.heap.size + 1 := World.size_alloc _ _
  clear h hk hT hp0 hp1 hp2 hone hb1 hn1 hrb htv
  go_upto_region 2 with fail
  generalize w.alloc (.cells (rcs a r) 84) = W0 at *
  refine wp_region_held_drew (S := fun V => Ck a V) (by kernel_rfl) (HCk.out _ HB0.out) (fun hHeld => ?_)
  refine wpAnyH_take (i := 0) (v := .pointer (some ⟨a.R, 0, none⟩)) rfl (by kernel_rfl) (by kernel_rfl) (by kernel_rfl) (fun _ _ _ h => h) (Or.inl ⟨by kernel_rfl, fun w1 hSw => by clear hHeld; have k5 := hSw.c5; have k7 := hSw.c7; go_simp⟩) hHeld ?_
  try simp only [Act.put]
  try simp only [List.getElem_toArray]
  try simp only [List.getElem_cons_succ]
  try simp only [List.getElem_cons_zero]
  try simp only [List.setIfInBounds_toArray]
  try simp only [List.set_cons_succ, List.set_cons_zero]
  refine wpAnyH_take (i := 1) (v := .pointer (some ⟨a.R, 0, none⟩)) rfl (by kernel_rfl) (by kernel_rfl) (by kernel_rfl) (fun _ _ _ h => h) (Or.inl ⟨by kernel_rfl, fun w1 hSw => by clear hHeld; have k5 := hSw.c5; have k7 := hSw.c7; go_simp⟩) hHeld ?_
  try simp only [Act.put]
  try simp only [List.getElem_toArray]
  try simp only [List.getElem_cons_succ]
  try simp only [List.getElem_cons_zero]
  try simp only [List.setIfInBounds_toArray]
  try simp only [List.set_cons_succ, List.set_cons_zero]
  refine wpAnyH_take (i := 2) (v := .pointer (some ⟨a.R, 5, none⟩)) rfl (by kernel_rfl) (by kernel_rfl) (by kernel_rfl) (fun _ _ _ h => h) (Or.inl ⟨by kernel_rfl, fun w1 hSw => by clear hHeld; have k5 := hSw.c5; have k7 := hSw.c7; go_simp⟩) hHeld ?_
  try simp only [Act.put]
  try simp only [List.getElem_toArray]
  try simp only [List.getElem_cons_succ]
  try simp only [List.getElem_cons_zero]
  try simp only [List.setIfInBounds_toArray]
  try simp only [List.set_cons_succ, List.set_cons_zero]
  refine wpAnyH_take (i := 3) (v := .pointer (some ⟨a.C, 0, none⟩)) rfl (by kernel_rfl) (by kernel_rfl) (by kernel_rfl) (fun _ _ _ h => h) (Or.inl ⟨by kernel_rfl, fun w1 hSw => by clear hHeld; have k5 := hSw.c5; have k7 := hSw.c7; go_simp⟩) hHeld ?_
  try simp only [Act.put]
  try simp only [List.getElem_toArray]
  try simp only [List.getElem_cons_succ]
  try simp only [List.getElem_cons_zero]
  try simp only [List.setIfInBounds_toArray]
  try simp only [List.set_cons_succ, List.set_cons_zero]
  refine wpAnyH_take (i := 5) (v := .pointer (some ⟨a.R, 0, none⟩)) rfl (by kernel_rfl) (by kernel_rfl) (by kernel_rfl) (fun _ _ _ h => h) (Or.inl ⟨by kernel_rfl, fun w1 hSw => by clear hHeld; have k5 := hSw.c5; have k7 := hSw.c7; go_simp⟩) hHeld ?_
  try simp only [Act.put]
  try simp only [List.getElem_toArray]
  try simp only [List.getElem_cons_succ]
  try simp only [List.getElem_cons_zero]
  try simp only [List.setIfInBounds_toArray]
  try simp only [List.set_cons_succ, List.set_cons_zero]
  refine wpAnyH_take (i := 6) (v := .pointer (some ⟨a.R, 0, none⟩)) rfl (by kernel_rfl) (by kernel_rfl) (by kernel_rfl) (fun _ _ _ h => h) (Or.inl ⟨by kernel_rfl, fun w1 hSw => by clear hHeld; have k5 := hSw.c5; have k7 := hSw.c7; go_simp⟩) hHeld ?_
  try simp only [Act.put]
  try simp only [List.getElem_toArray]
  try simp only [List.getElem_cons_succ]
  try simp only [List.getElem_cons_zero]
  try simp only [List.setIfInBounds_toArray]
  try simp only [List.set_cons_succ, List.set_cons_zero]
  refine wpAnyH_take (i := 7) (v := .pointer (some ⟨a.R, 7, none⟩)) rfl (by kernel_rfl) (by kernel_rfl) (by kernel_rfl) (fun _ _ _ h => h) (Or.inl ⟨by kernel_rfl, fun w1 hSw => by clear hHeld; have k5 := hSw.c5; have k7 := hSw.c7; go_simp⟩) hHeld ?_
  try simp only [Act.put]
  try simp only [List.getElem_toArray]
  try simp only [List.getElem_cons_succ]
  try simp only [List.getElem_cons_zero]
  try simp only [List.setIfInBounds_toArray]
  try simp only [List.set_cons_succ, List.set_cons_zero]
  refine wpAnyH_take (i := 8) (v := a.tv) rfl (by kernel_rfl) (by kernel_rfl) (by kernel_rfl) (fun _ _ _ h => h) (Or.inl ⟨by kernel_rfl, fun w1 hSw => by clear hHeld; have k5 := hSw.c5; have k7 := hSw.c7; go_simp⟩) hHeld ?_
  try simp only [Act.put]
  try simp only [List.getElem_toArray]
  try simp only [List.getElem_cons_succ]
  try simp only [List.getElem_cons_zero]
  try simp only [List.setIfInBounds_toArray]
  try simp only [List.set_cons_succ, List.set_cons_zero]
  refine wpAnyH_ready (rs := [4]) (by kernel_rfl) (by simp) ?_
  refine AllReadyH.cons rfl (fun K hK => ?_) AllReadyH.nil
  go_simp
  refine (HCC.out _ HB0.out).mono ?_
  rintro e V1 ⟨CC, rfl, hge1, hob, hb⟩
  have hs1 := hb.size
  have HB1 := hide (HB0.out.trans (hb.mono HB0.out.size))
  have HR1 := hide ((hb.block _ (lt_of_block HR0.out)).trans HR0.out)
  have HOC := hide hob
  have hgeC : w.heap.size + 1 ≤ CC := by omega
  clear hb hob
  refine hK.out _ _ (HCk.out _ HB1.out) (fun hHeld => ?_)
  clear hK K
  try simp only [Act.put]
  try simp only [List.getElem_toArray]
  try simp only [List.getElem_cons_succ]
  try simp only [List.getElem_cons_zero]
  try simp only [List.setIfInBounds_toArray]
  try simp only [List.set_cons_succ, List.set_cons_zero]
  refine wpAnyH_ready (rs := [9]) (by kernel_rfl) (by simp) ?_
  refine AllReadyH.cons rfl (fun K hK => ?_) AllReadyH.nil
  go_simp
  refine (HCE.out _ HB1.out).mono ?_
  rintro e V2 ⟨tv2, rfl, hob, hb⟩
  obtain ⟨ad2, cap2, rfl⟩ := CH.own_slice hob
  have hs2 := hb.size
  have HB2 := hide (HB1.out.trans (hb.mono HB1.out.size))
  have HR2 := hide ((hb.block _ (lt_of_block HR1.out)).trans HR1.out)
  have HOC := hide ((hb.block CC (lt_of_block HOC.out)).trans HOC.out)
  have HOE := hide hob
  have hgeE : w.heap.size + 1 ≤ V1.heap.size := by omega
  clear hb hob
  refine hK.out _ _ (HCk.out _ HB2.out) (fun hHeld => ?_)
  clear hK K
  try simp only [Act.put]
  try simp only [List.getElem_toArray]
  try simp only [List.getElem_cons_succ]
  try simp only [List.getElem_cons_zero]
  try simp only [List.setIfInBounds_toArray]
  try simp only [List.set_cons_succ, List.set_cons_zero]
  refine wpAnyH_take (i := 10) (v := .pointer (some ⟨w.heap.size, 5, none⟩)) rfl (by kernel_rfl) (by kernel_rfl) (by kernel_rfl) (fun _ _ _ h => h) (Or.inl ⟨by kernel_rfl, fun w1 hSw => by clear hHeld; have k5 := hSw.c5; have k7 := hSw.c7; go_simp⟩) hHeld ?_
  try simp only [Act.put]
  try simp only [List.getElem_toArray]
  try simp only [List.getElem_cons_succ]
  try simp only [List.getElem_cons_zero]
  try simp only [List.setIfInBounds_toArray]
  try simp only [List.set_cons_succ, List.set_cons_zero]
  refine wpAnyH_ready (rs := [11]) (by kernel_rfl) (by simp) ?_
  refine AllReadyH.cons rfl (fun K hK => ?_) AllReadyH.nil
  have HR3 := hide (own_set V2 w.heap.size 5 (.pointer (some ⟨CC, 0, none⟩)) _ _ _ HR2.out)
  have HB3 : Hid (Below w.heap.size w (V2.setCell ⟨w.heap.size, 5, none⟩ (.pointer (some ⟨CC, 0, none⟩)))) := hide (HB2.out.setCell (Nat.le_refl _) _)
  have HOC3 : Hid (SE.Cb (V2.setCell ⟨w.heap.size, 5, none⟩ (.pointer (some ⟨CC, 0, none⟩))) CC r.c) := hide ((Below.heap_setCell V2 ⟨w.heap.size, 5, none⟩ (.pointer (some ⟨CC, 0, none⟩)) CC (by show CC ≠ w.heap.size; omega)).trans HOC.out)
  have HOE3 := hide (CH.own_keep HOE.out (fun g hg => Below.heap_setCell V2 ⟨w.heap.size, 5, none⟩ (.pointer (some ⟨CC, 0, none⟩)) g (by have := (HOE.out.lt g hg).1; show g ≠ w.heap.size; omega)))
  have yy := cell_of (i := 5) HR2.out rfl
  have zz := blk_z HR2.out
  clear hHeld
  go_simp
  clear yy zz
  refine hK.out _ _ (HCk.out _ HB3.out) (fun hHeld => ?_)
  clear hK K
  try simp only [Act.put]
  try simp only [List.getElem_toArray]
  try simp only [List.getElem_cons_succ]
  try simp only [List.getElem_cons_zero]
  try simp only [List.setIfInBounds_toArray]
  try simp only [List.set_cons_succ, List.set_cons_zero]
  refine wpAnyH_take (i := 12) (v := .pointer (some ⟨w.heap.size, 7, none⟩)) rfl (by kernel_rfl) (by kernel_rfl) (by kernel_rfl) (fun _ _ _ h => h) (Or.inl ⟨by kernel_rfl, fun w1 hSw => by clear hHeld; have k5 := hSw.c5; have k7 := hSw.c7; go_simp⟩) hHeld ?_
  try simp only [Act.put]
  try simp only [List.getElem_toArray]
  try simp only [List.getElem_cons_succ]
  try simp only [List.getElem_cons_zero]
  try simp only [List.setIfInBounds_toArray]
  try simp only [List.set_cons_succ, List.set_cons_zero]
  refine wpAnyH_ready (rs := [13]) (by kernel_rfl) (by simp) ?_
  refine AllReadyH.cons rfl (fun K hK => ?_) AllReadyH.nil
  have HR4 := hide (own_set (V2.setCell ⟨w.heap.size, 5, none⟩ (.pointer (some ⟨CC, 0, none⟩))) w.heap.size 7 (.slice ad2 r.T.length cap2) _ _ _ HR3.out)
  have HB4 : Hid (Below w.heap.size w ((V2.setCell ⟨w.heap.size, 5, none⟩ (.pointer (some ⟨CC, 0, none⟩))).setCell ⟨w.heap.size, 7, none⟩ (.slice ad2 r.T.length cap2))) := hide (HB3.out.setCell (Nat.le_refl _) _)
  have HOC4 : Hid (SE.Cb ((V2.setCell ⟨w.heap.size, 5, none⟩ (.pointer (some ⟨CC, 0, none⟩))).setCell ⟨w.heap.size, 7, none⟩ (.slice ad2 r.T.length cap2)) CC r.c) := hide ((Below.heap_setCell (V2.setCell ⟨w.heap.size, 5, none⟩ (.pointer (some ⟨CC, 0, none⟩))) ⟨w.heap.size, 7, none⟩ (.slice ad2 r.T.length cap2) CC (by show CC ≠ w.heap.size; omega)).trans HOC3.out)
  have HOE4 := hide (CH.own_keep HOE3.out (fun g hg => Below.heap_setCell (V2.setCell ⟨w.heap.size, 5, none⟩ (.pointer (some ⟨CC, 0, none⟩))) ⟨w.heap.size, 7, none⟩ (.slice ad2 r.T.length cap2) g (by have := (HOE3.out.lt g hg).1; show g ≠ w.heap.size; omega)))
  have yy := cell_of (i := 7) HR3.out rfl
  have zz := blk_z HR3.out
  clear hHeld
  go_simp
  clear yy zz
  refine hK.out _ _ (HCk.out _ HB4.out) (fun hHeld => ?_)
  clear hK K
  try simp only [Act.put]
  try simp only [List.getElem_toArray]
  try simp only [List.getElem_cons_succ]
  try simp only [List.getElem_cons_zero]
  try simp only [List.setIfInBounds_toArray]
  try simp only [List.set_cons_succ, List.set_cons_zero]
  refine wpAnyH_done (by kernel_rfl) ?_ _
  go_upto_region 3 with fail
  generalize (V2.setCell ⟨w.heap.size, 5, none⟩ (.pointer (some ⟨CC, 0, none⟩))).setCell ⟨w.heap.size, 7, none⟩ (.slice ad2 r.T.length cap2) = V4 at *
  clear hHeld HR2 HB2 HR3 HB3 HOC HOE HOC3 HOE3 HCC HCE HB0 HR0 HB1 HR1 hs0 HCk
  have HR4m := hide (HH.out.below HB4.out)
  have c6 := HR4m.out.c6
  rw [HP0.out] at c6
  have z6 := blk_z HR4.out
  have hl4 := lt_of_block HR4.out
  cases hj : r.j with
  | none =>
    have e0 := HP1.out hj
    subst e0
    go_wp2_with fail
    go_ret
    exact ⟨_, rfl, RC.of (ja := a.ja) HH.out HB4.out (Nat.le_refl _) (Nat.le_of_succ_le hgeC) (Nat.le_of_succ_le hgeE) HR4.out HOC4.out HOE4.out (fun k hk => by rw [hj] at hk; cases hk)⟩
  | some j =>
    have e0 := HP2.out j hj
    subst e0
    have HJc := hide (jclone_any (HR4m.out.j j hj) (HK.out.j j hj))
    go_wp2_with fail
    refine HJc.out.mono ?_
    rintro e V5 ⟨jb, rfl, hjc⟩
    have HJ5 := hide hjc
    have hb5 := hjc.bl
    have hR5 := (hb5.block _ hl4).trans HR4.out
    have z5 := blk_z hR5
    have y5 := cell_of (i := 6) hR5 rfl
    have hR6 := own_set V5 w.heap.size 6 (.pointer (some ⟨jb.J, 0, none⟩)) _ _ _ hR5
    have hB6 : Below w.heap.size w (V5.setCell ⟨w.heap.size, 6, none⟩ (.pointer (some ⟨jb.J, 0, none⟩))) := (HB4.out.trans (hb5.mono HB4.out.size)).setCell (Nat.le_refl _) _
    have hs4 := HB4.out.size
    have HX : Hid (RC w a r ⟨w.heap.size, CC, .slice ad2 r.T.length cap2, jb⟩ (V5.setCell ⟨w.heap.size, 6, none⟩ (.pointer (some ⟨jb.J, 0, none⟩)))) := hide (by
      have kp6 : Kp (fun x _ => x = w.heap.size) V5 (V5.setCell ⟨w.heap.size, 6, none⟩ (.pointer (some ⟨jb.J, 0, none⟩))) := Kp.of_on (on_set V5 w.heap.size 6 _) hR5 (by decide) (fun _ => rfl)
      refine RC.of HH.out hB6 (Nat.le_refl _) (Nat.le_of_succ_le hgeC) (Nat.le_of_succ_le hgeE) ?_ ?_ ?_ ?_
      · rw [hR6]
        unfold rcs
        rw [hj]
        rfl
      · exact (kp6.block CC (Nat.lt_of_lt_of_le (lt_of_block HOC4.out) hb5.size) (fun i e => by omega)).trans ((hb5.block _ (lt_of_block HOC4.out)).trans HOC4.out)
      · exact CH.own_keep (CH.own_below HOE4.out hb5) (fun g hg => kp6.block g ((CH.own_below HOE4.out hb5).lt g hg).2 (fun i e => by have := (HOE4.out.lt g hg).1; omega))
      · intro k hk
        rw [hj] at hk
        cases hk
        refine ⟨HJ5.out.jm.kp kp6 (fun x i hd e => by
          subst e
          exact HJ5.out.jm.no_d hR5 (by decide) (by decide) (by decide) (by decide) (by decide) hd), fun x i hg => Nat.le_trans hs4 (HJ5.out.g x i hg), fun x i hd => (HJ5.out.d x i hd).imp_left (Nat.le_trans hs4)⟩)
    clear hjc hR6 hB6 hb5 HJc hj c6 z6 HJ5 HR4m
    go_wp2_with fail
    go_ret
    exact ⟨_, rfl, HX.out⟩
end Go.Proofs.YtkfnedhllfdghaaGreatDoor.RN
end

section
namespace Go.Proofs.YtkfnedhllfdghaaGreatDoor.RN
open Go.RowKit Go.Shelf
set_option maxRecDepth 20000

def newR (sl li wd rs qu : Int) : Rn := ⟨sl.toNat, li.toNat, wd.toNat, rs.toNat, qu.toNat, SE.newC rs, none, []⟩
/-- may a runner be? -/
def newOk (g0 g2 g4 g5 sl li : Int) : Prop := (1 ≤ g0 ∧ g0 ≤ 8) ∧ (1 ≤ g2 ∧ g2 ≤ 16) ∧ (1 ≤ g4 ∧ g4 ≤ 8) ∧ (1 ≤ g5 ∧ g5 ≤ 64) ∧ (0 ≤ sl ∧ sl ≤ g0 - 1) ∧ (1 ≤ li ∧ li ≤ 1099511627776)
theorem newR_ok {g0 g2 g4 g5 sl li : Int} (h : newOk g0 g2 g4 g5 sl li) : (newR sl li g4 g2 g5).ok := by
  obtain ⟨⟨_, a2⟩, ⟨b1, b2⟩, ⟨c1, c2⟩, ⟨d1, d2⟩, ⟨e1, e2⟩, f1, f2⟩ := h
  exact ⟨by show sl.toNat < 8; omega, by show li.toNat ≤ _; omega, by show 1 ≤ g4.toNat; omega, by show g4.toNat ≤ 8; omega, by show 1 ≤ g2.toNat; omega, by show g2.toNat ≤ 16; omega, by show 1 ≤ g5.toNat; omega, by show g5.toNat ≤ 64; omega, SE.newC_ok b1 b2, by show (0 : Nat) < _; decide, fun j hj => by cases hj⟩
/-- a runner that was made just now: all of it is new -/
structure NR (w : World) (a : RA) (r : Rn) (w' : World) : Prop where
  rm : Rm w' a r
  bl : Below w.heap.size w w'
  g : ∀ x i, a.g r x i → w.heap.size ≤ x
structure Nw (w : World) (B : Nat) (g0 g1 g2 g3 g4 g5 g6 g7 g8 sl li W : Int) (V : World) : Prop where
  cf : V.heap[w.heap.size]? = some (.cells #[.int .i64 g0, .int .i64 g1, .int .i64 g2, .int .i64 g3, .int .i64 g4, .int .i64 g5, .int .i64 g6, .int .i64 g7, .int .i64 g8] 23 (0, 0))
  bx : V.heap[B]? = some (.cells #[.int .i64 g0, .int .i64 1, .int .i64 8, .int .i64 g2, .int .i64 1, .int .i64 16, .int .i64 g4, .int .i64 1, .int .i64 8, .int .i64 g5, .int .i64 1, .int .i64 64, .int .i64 sl, .int .i64 0, .int .i64 W, .int .i64 li, .int .i64 1, .int .i64 1099511627776] 77 (0, 0))
  bl : Below w.heap.size w V
theorem Nw.up {w V V' : World} {B : Nat} {g0 g1 g2 g3 g4 g5 g6 g7 g8 sl li W : Int} (h : Nw w B g0 g1 g2 g3 g4 g5 g6 g7 g8 sl li W V) (hb : Below V.heap.size V V') : Nw w B g0 g1 g2 g3 g4 g5 g6 g7 g8 sl li W V' :=
  ⟨(hb.block _ (lt_of_block h.cf)).trans h.cf, (hb.block _ (lt_of_block h.bx)).trans h.bx, h.bl.trans (hb.mono h.bl.size)⟩
set_option maxHeartbeats 8000000 in
theorem rnew_any (w : World) (ht : Tbs w) {g0 g1 g2 g3 g4 g5 g6 g7 g8 sl li : Int} (h0 : -9223372036854775808 ≤ g0 ∧ g0 ≤ 9223372036854775807) (h2 : -9223372036854775808 ≤ g2 ∧ g2 ≤ 9223372036854775807) :
    Calls Tryz.prog 7 #[.agg #[.int .i64 g0, .int .i64 g1, .int .i64 g2, .int .i64 g3, .int .i64 g4, .int .i64 g5, .int .i64 g6, .int .i64 g7, .int .i64 g8], .int .i64 sl, .int .i64 li] w fun e w' => (newOk g0 g2 g4 g5 sl li ∧ ∃ a, e = .returned (.tuple #[.pointer (some ⟨a.R, 0, none⟩), .int .i64 0]) ∧ NR w a (newR sl li g4 g2 g5) w') ∨ (¬ newOk g0 g2 g4 g5 sl li ∧ e = .returned (.tuple #[.pointer none, .int .i64 190]) ∧ Below w.heap.size w w') := by
  have HNc := hide (fun (V : World) => SE.cnew_any V h2)
  obtain ⟨W, hW⟩ : ∃ W, IntKind.i64.wrap (g0 - 1) = W := ⟨_, rfl⟩
  have hWv : 1 ≤ g0 → W = g0 - 1 := fun h => by rw [← hW, IntKind.wrap_i64]; omega
  have HT := hide ht
  have HWv := hide hWv
  clear h0 h2 ht hWv
  have HN0 : Hid (Nw w (w.heap.size + 1) g0 g1 g2 g3 g4 g5 g6 g7 g8 sl li W ((w.alloc (.cells #[.int .i64 g0, .int .i64 g1, .int .i64 g2, .int .i64 g3, .int .i64 g4, .int .i64 g5, .int .i64 g6, .int .i64 g7, .int .i64 g8] 23)).alloc (.cells #[.int .i64 g0, .int .i64 1, .int .i64 8, .int .i64 g2, .int .i64 1, .int .i64 16, .int .i64 g4, .int .i64 1, .int .i64 8, .int .i64 g5, .int .i64 1, .int .i64 64, .int .i64 sl, .int .i64 0, .int .i64 W, .int .i64 li, .int .i64 1, .int .i64 1099511627776] 77))) := hide (by
    have hb1 := CH.below_alloc w (.cells #[.int .i64 g0, .int .i64 g1, .int .i64 g2, .int .i64 g3, .int .i64 g4, .int .i64 g5, .int .i64 g6, .int .i64 g7, .int .i64 g8] 23)
    have hb2 := CH.below_alloc (w.alloc (.cells #[.int .i64 g0, .int .i64 g1, .int .i64 g2, .int .i64 g3, .int .i64 g4, .int .i64 g5, .int .i64 g6, .int .i64 g7, .int .i64 g8] 23)) (.cells #[.int .i64 g0, .int .i64 1, .int .i64 8, .int .i64 g2, .int .i64 1, .int .i64 16, .int .i64 g4, .int .i64 1, .int .i64 8, .int .i64 g5, .int .i64 1, .int .i64 64, .int .i64 sl, .int .i64 0, .int .i64 W, .int .i64 li, .int .i64 1, .int .i64 1099511627776] 77)
    have hn2 := heap_alloc_new (w.alloc (.cells #[.int .i64 g0, .int .i64 g1, .int .i64 g2, .int .i64 g3, .int .i64 g4, .int .i64 g5, .int .i64 g6, .int .i64 g7, .int .i64 g8] 23)) (.cells #[.int .i64 g0, .int .i64 1, .int .i64 8, .int .i64 g2, .int .i64 1, .int .i64 16, .int .i64 g4, .int .i64 1, .int .i64 8, .int .i64 g5, .int .i64 1, .int .i64 64, .int .i64 sl, .int .i64 0, .int .i64 W, .int .i64 li, .int .i64 1, .int .i64 1099511627776] 77)
    rw [World.size_alloc] at hn2
    exact ⟨(hb2.block _ (by simp)).trans (heap_alloc_new w _), hn2, hb1.trans (hb2.mono hb1.size)⟩)
  go_enter Tryz.func7, Tryz.ntmps7
  go_upto_region 2 with fail
  generalize (w.alloc (.cells #[.int .i64 g0, .int .i64 g1, .int .i64 g2, .int .i64 g3, .int .i64 g4, .int .i64 g5, .int .i64 g6, .int .i64 g7, .int .i64 g8] 23)).alloc (.cells #[.int .i64 g0, .int .i64 1, .int .i64 8, .int .i64 g2, .int .i64 1, .int .i64 16, .int .i64 g4, .int .i64 1, .int .i64 8, .int .i64 g5, .int .i64 1, .int .i64 64, .int .i64 sl, .int .i64 0, .int .i64 W, .int .i64 li, .int .i64 1, .int .i64 1099511627776] 77) = W0 at *
  go_loopw [33] (fun u wr => ∃ i : Nat, i ≤ 6 ∧ u = .int .i64 (i : Int) ∧ Hid ((0 < i → 1 ≤ g0 ∧ g0 ≤ 8) ∧ (1 < i → 1 ≤ g2 ∧ g2 ≤ 16) ∧ (2 < i → 1 ≤ g4 ∧ g4 ≤ 8) ∧ (3 < i → 1 ≤ g5 ∧ g5 ≤ 64) ∧ (4 < i → 0 ≤ sl ∧ sl ≤ W) ∧ (5 < i → 1 ≤ li ∧ li ≤ 1099511627776)) ∧ Hid (Nw w (w.heap.size + 1) g0 g1 g2 g3 g4 g5 g6 g7 g8 sl li W wr)) (fun u _ => 6 - (intOf u).toNat)
  case atStart => exact ⟨0, by omega, rfl, hide (by refine ⟨?_, ?_, ?_, ?_, ?_, ?_⟩ <;> (intro h; omega)), HN0⟩
  case round =>
    clear HN0
    obtain ⟨i, hi, rfl, HO, HN⟩ := hrel
    rcases (show i = 0 ∨ i = 1 ∨ i = 2 ∨ i = 3 ∨ i = 4 ∨ i = 5 ∨ i = 6 by omega) with rfl | rfl | rfl | rfl | rfl | rfl | rfl
    · have z0 := blk_z HN.out.bx
      have k0 := cell_of (i := 0) HN.out.bx rfl
      have k1 := cell_of (i := 1) HN.out.bx rfl
      have k2 := cell_of (i := 2) HN.out.bx rfl
      by_cases q1 : g0 < 1
      · have HBad : Hid (¬ newOk g0 g2 g4 g5 sl li) := hide (fun hh => by unfold newOk at hh; omega)
        have HBl := hide HN.out.bl
        clear HO
        go_wp2_with fail
        go_ret2
        exact .inr ⟨HBad.out, rfl, HBl.out.trans ((CH.below_alloc wr _).mono HBl.out.size)⟩
      · by_cases q2 : 8 < g0
        · have HBad : Hid (¬ newOk g0 g2 g4 g5 sl li) := hide (fun hh => by unfold newOk at hh; omega)
          have HBl := hide HN.out.bl
          clear HO
          go_wp2_with fail
          go_ret2
          exact .inr ⟨HBad.out, rfl, HBl.out.trans ((CH.below_alloc wr _).mono HBl.out.size)⟩
        · have HO2 : Hid ((0 < 1 → 1 ≤ g0 ∧ g0 ≤ 8) ∧ (1 < 1 → 1 ≤ g2 ∧ g2 ≤ 16) ∧ (2 < 1 → 1 ≤ g4 ∧ g4 ≤ 8) ∧ (3 < 1 → 1 ≤ g5 ∧ g5 ≤ 64) ∧ (4 < 1 → 0 ≤ sl ∧ sl ≤ W) ∧ (5 < 1 → 1 ≤ li ∧ li ≤ 1099511627776)) := hide (by obtain ⟨o0, o1, o2, o3, o4, o5⟩ := HO.out; refine ⟨?_, ?_, ?_, ?_, ?_, ?_⟩ <;> (intro h; first | omega | exact o0 (by omega) | exact o1 (by omega) | exact o2 (by omega) | exact o3 (by omega) | exact o4 (by omega) | exact o5 (by omega)))
          have HN2 := hide (HN.out.up (CH.below_alloc wr (.cells #[.int .i64 g0, .int .i64 1, .int .i64 8] 77)))
          clear HO HN
          go_wp2_with fail
          go_roundw
          case rel => exact ⟨1, by omega, by go_num, HO2, HN2⟩
          case measure => simp only [intOf]; omega
    · have z0 := blk_z HN.out.bx
      have k0 := cell_of (i := 3) HN.out.bx rfl
      have k1 := cell_of (i := 4) HN.out.bx rfl
      have k2 := cell_of (i := 5) HN.out.bx rfl
      by_cases q1 : g2 < 1
      · have HBad : Hid (¬ newOk g0 g2 g4 g5 sl li) := hide (fun hh => by unfold newOk at hh; omega)
        have HBl := hide HN.out.bl
        clear HO
        go_wp2_with fail
        go_ret2
        exact .inr ⟨HBad.out, rfl, HBl.out.trans ((CH.below_alloc wr _).mono HBl.out.size)⟩
      · by_cases q2 : 16 < g2
        · have HBad : Hid (¬ newOk g0 g2 g4 g5 sl li) := hide (fun hh => by unfold newOk at hh; omega)
          have HBl := hide HN.out.bl
          clear HO
          go_wp2_with fail
          go_ret2
          exact .inr ⟨HBad.out, rfl, HBl.out.trans ((CH.below_alloc wr _).mono HBl.out.size)⟩
        · have HO2 : Hid ((0 < 2 → 1 ≤ g0 ∧ g0 ≤ 8) ∧ (1 < 2 → 1 ≤ g2 ∧ g2 ≤ 16) ∧ (2 < 2 → 1 ≤ g4 ∧ g4 ≤ 8) ∧ (3 < 2 → 1 ≤ g5 ∧ g5 ≤ 64) ∧ (4 < 2 → 0 ≤ sl ∧ sl ≤ W) ∧ (5 < 2 → 1 ≤ li ∧ li ≤ 1099511627776)) := hide (by obtain ⟨o0, o1, o2, o3, o4, o5⟩ := HO.out; refine ⟨?_, ?_, ?_, ?_, ?_, ?_⟩ <;> (intro h; first | omega | exact o0 (by omega) | exact o1 (by omega) | exact o2 (by omega) | exact o3 (by omega) | exact o4 (by omega) | exact o5 (by omega)))
          have HN2 := hide (HN.out.up (CH.below_alloc wr (.cells #[.int .i64 g2, .int .i64 1, .int .i64 16] 77)))
          clear HO HN
          go_wp2_with fail
          go_roundw
          case rel => exact ⟨2, by omega, by go_num, HO2, HN2⟩
          case measure => simp only [intOf]; omega
    · have z0 := blk_z HN.out.bx
      have k0 := cell_of (i := 6) HN.out.bx rfl
      have k1 := cell_of (i := 7) HN.out.bx rfl
      have k2 := cell_of (i := 8) HN.out.bx rfl
      by_cases q1 : g4 < 1
      · have HBad : Hid (¬ newOk g0 g2 g4 g5 sl li) := hide (fun hh => by unfold newOk at hh; omega)
        have HBl := hide HN.out.bl
        clear HO
        go_wp2_with fail
        go_ret2
        exact .inr ⟨HBad.out, rfl, HBl.out.trans ((CH.below_alloc wr _).mono HBl.out.size)⟩
      · by_cases q2 : 8 < g4
        · have HBad : Hid (¬ newOk g0 g2 g4 g5 sl li) := hide (fun hh => by unfold newOk at hh; omega)
          have HBl := hide HN.out.bl
          clear HO
          go_wp2_with fail
          go_ret2
          exact .inr ⟨HBad.out, rfl, HBl.out.trans ((CH.below_alloc wr _).mono HBl.out.size)⟩
        · have HO2 : Hid ((0 < 3 → 1 ≤ g0 ∧ g0 ≤ 8) ∧ (1 < 3 → 1 ≤ g2 ∧ g2 ≤ 16) ∧ (2 < 3 → 1 ≤ g4 ∧ g4 ≤ 8) ∧ (3 < 3 → 1 ≤ g5 ∧ g5 ≤ 64) ∧ (4 < 3 → 0 ≤ sl ∧ sl ≤ W) ∧ (5 < 3 → 1 ≤ li ∧ li ≤ 1099511627776)) := hide (by obtain ⟨o0, o1, o2, o3, o4, o5⟩ := HO.out; refine ⟨?_, ?_, ?_, ?_, ?_, ?_⟩ <;> (intro h; first | omega | exact o0 (by omega) | exact o1 (by omega) | exact o2 (by omega) | exact o3 (by omega) | exact o4 (by omega) | exact o5 (by omega)))
          have HN2 := hide (HN.out.up (CH.below_alloc wr (.cells #[.int .i64 g4, .int .i64 1, .int .i64 8] 77)))
          clear HO HN
          go_wp2_with fail
          go_roundw
          case rel => exact ⟨3, by omega, by go_num, HO2, HN2⟩
          case measure => simp only [intOf]; omega
    · have z0 := blk_z HN.out.bx
      have k0 := cell_of (i := 9) HN.out.bx rfl
      have k1 := cell_of (i := 10) HN.out.bx rfl
      have k2 := cell_of (i := 11) HN.out.bx rfl
      by_cases q1 : g5 < 1
      · have HBad : Hid (¬ newOk g0 g2 g4 g5 sl li) := hide (fun hh => by unfold newOk at hh; omega)
        have HBl := hide HN.out.bl
        clear HO
        go_wp2_with fail
        go_ret2
        exact .inr ⟨HBad.out, rfl, HBl.out.trans ((CH.below_alloc wr _).mono HBl.out.size)⟩
      · by_cases q2 : 64 < g5
        · have HBad : Hid (¬ newOk g0 g2 g4 g5 sl li) := hide (fun hh => by unfold newOk at hh; omega)
          have HBl := hide HN.out.bl
          clear HO
          go_wp2_with fail
          go_ret2
          exact .inr ⟨HBad.out, rfl, HBl.out.trans ((CH.below_alloc wr _).mono HBl.out.size)⟩
        · have HO2 : Hid ((0 < 4 → 1 ≤ g0 ∧ g0 ≤ 8) ∧ (1 < 4 → 1 ≤ g2 ∧ g2 ≤ 16) ∧ (2 < 4 → 1 ≤ g4 ∧ g4 ≤ 8) ∧ (3 < 4 → 1 ≤ g5 ∧ g5 ≤ 64) ∧ (4 < 4 → 0 ≤ sl ∧ sl ≤ W) ∧ (5 < 4 → 1 ≤ li ∧ li ≤ 1099511627776)) := hide (by obtain ⟨o0, o1, o2, o3, o4, o5⟩ := HO.out; refine ⟨?_, ?_, ?_, ?_, ?_, ?_⟩ <;> (intro h; first | omega | exact o0 (by omega) | exact o1 (by omega) | exact o2 (by omega) | exact o3 (by omega) | exact o4 (by omega) | exact o5 (by omega)))
          have HN2 := hide (HN.out.up (CH.below_alloc wr (.cells #[.int .i64 g5, .int .i64 1, .int .i64 64] 77)))
          clear HO HN
          go_wp2_with fail
          go_roundw
          case rel => exact ⟨4, by omega, by go_num, HO2, HN2⟩
          case measure => simp only [intOf]; omega
    · have z0 := blk_z HN.out.bx
      have k0 := cell_of (i := 12) HN.out.bx rfl
      have k1 := cell_of (i := 13) HN.out.bx rfl
      have k2 := cell_of (i := 14) HN.out.bx rfl
      by_cases q1 : sl < 0
      · have HBad : Hid (¬ newOk g0 g2 g4 g5 sl li) := hide (fun hh => by unfold newOk at hh; omega)
        have HBl := hide HN.out.bl
        clear HO
        go_wp2_with fail
        go_ret2
        exact .inr ⟨HBad.out, rfl, HBl.out.trans ((CH.below_alloc wr _).mono HBl.out.size)⟩
      · by_cases q2 : W < sl
        · have HBad : Hid (¬ newOk g0 g2 g4 g5 sl li) := hide (fun hh => by unfold newOk at hh; have hw := HWv.out hh.1.1; omega)
          have HBl := hide HN.out.bl
          clear HO
          go_wp2_with fail
          go_ret2
          exact .inr ⟨HBad.out, rfl, HBl.out.trans ((CH.below_alloc wr _).mono HBl.out.size)⟩
        · have HO2 : Hid ((0 < 5 → 1 ≤ g0 ∧ g0 ≤ 8) ∧ (1 < 5 → 1 ≤ g2 ∧ g2 ≤ 16) ∧ (2 < 5 → 1 ≤ g4 ∧ g4 ≤ 8) ∧ (3 < 5 → 1 ≤ g5 ∧ g5 ≤ 64) ∧ (4 < 5 → 0 ≤ sl ∧ sl ≤ W) ∧ (5 < 5 → 1 ≤ li ∧ li ≤ 1099511627776)) := hide (by obtain ⟨o0, o1, o2, o3, o4, o5⟩ := HO.out; refine ⟨?_, ?_, ?_, ?_, ?_, ?_⟩ <;> (intro h; first | omega | exact o0 (by omega) | exact o1 (by omega) | exact o2 (by omega) | exact o3 (by omega) | exact o4 (by omega) | exact o5 (by omega)))
          have HN2 := hide (HN.out.up (CH.below_alloc wr (.cells #[.int .i64 sl, .int .i64 0, .int .i64 W] 77)))
          clear HO HN
          go_wp2_with fail
          go_roundw
          case rel => exact ⟨5, by omega, by go_num, HO2, HN2⟩
          case measure => simp only [intOf]; omega
    · have z0 := blk_z HN.out.bx
      have k0 := cell_of (i := 15) HN.out.bx rfl
      have k1 := cell_of (i := 16) HN.out.bx rfl
      have k2 := cell_of (i := 17) HN.out.bx rfl
      by_cases q1 : li < 1
      · have HBad : Hid (¬ newOk g0 g2 g4 g5 sl li) := hide (fun hh => by unfold newOk at hh; omega)
        have HBl := hide HN.out.bl
        clear HO
        go_wp2_with fail
        go_ret2
        exact .inr ⟨HBad.out, rfl, HBl.out.trans ((CH.below_alloc wr _).mono HBl.out.size)⟩
      · by_cases q2 : 1099511627776 < li
        · have HBad : Hid (¬ newOk g0 g2 g4 g5 sl li) := hide (fun hh => by unfold newOk at hh; omega)
          have HBl := hide HN.out.bl
          clear HO
          go_wp2_with fail
          go_ret2
          exact .inr ⟨HBad.out, rfl, HBl.out.trans ((CH.below_alloc wr _).mono HBl.out.size)⟩
        · have HO2 : Hid ((0 < 6 → 1 ≤ g0 ∧ g0 ≤ 8) ∧ (1 < 6 → 1 ≤ g2 ∧ g2 ≤ 16) ∧ (2 < 6 → 1 ≤ g4 ∧ g4 ≤ 8) ∧ (3 < 6 → 1 ≤ g5 ∧ g5 ≤ 64) ∧ (4 < 6 → 0 ≤ sl ∧ sl ≤ W) ∧ (5 < 6 → 1 ≤ li ∧ li ≤ 1099511627776)) := hide (by obtain ⟨o0, o1, o2, o3, o4, o5⟩ := HO.out; refine ⟨?_, ?_, ?_, ?_, ?_, ?_⟩ <;> (intro h; first | omega | exact o0 (by omega) | exact o1 (by omega) | exact o2 (by omega) | exact o3 (by omega) | exact o4 (by omega) | exact o5 (by omega)))
          have HN2 := hide (HN.out.up (CH.below_alloc wr (.cells #[.int .i64 li, .int .i64 1, .int .i64 1099511627776] 77)))
          clear HO HN
          go_wp2_with fail
          go_roundw
          case rel => exact ⟨6, by omega, by go_num, HO2, HN2⟩
          case measure => simp only [intOf]; omega
    · obtain ⟨o0, o1, o2, o3, o4, o5⟩ := HO.out
      have p0 := o0 (by decide)
      have p1 := o1 (by decide)
      have p2 := o2 (by decide)
      have p3 := o3 (by decide)
      have p4 := o4 (by decide)
      have p5 := o5 (by decide)
      have hw := HWv.out p0.1
      rw [hw] at p4
      have HOk : Hid (newOk g0 g2 g4 g5 sl li) := hide ⟨p0, p1, p2, p3, p4, p5⟩
      have z0 := blk_z HN.out.cf
      have k2 := cell_of (i := 2) HN.out.cf rfl
      have k4 := cell_of (i := 4) HN.out.cf rfl
      have k5 := cell_of (i := 5) HN.out.cf rfl
      clear o0 o1 o2 o3 o4 o5 HO
      go_wp2_with fail
      refine (HNc.out _).mono ?_
      rintro e w3 hnp
      have HNp := hide hnp
      clear hnp HNc
      rcases HNp.out with ⟨hbad, _, _⟩ | ⟨_, rfl, hcb, hb3⟩
      · exact absurd p1 hbad
      have HN3 := hide (HN.out.up hb3)
      have HC3 := hide hcb
      have hge := HN.out.bl.size
      have m2 := cell_of (i := 2) HN3.out.cf rfl
      have m4 := cell_of (i := 4) HN3.out.cf rfl
      have m5 := cell_of (i := 5) HN3.out.cf rfl
      clear hcb hb3 HNp HN k2 k4 k5
      go_wp2_with fail
      go_ret2
      refine .inl ⟨HOk.out, ⟨w3.heap.size, wr.heap.size, .slice none 0 0, ⟨0, 0, 0, 0, .pointer none, none, 0, 0, 0, none, 0, 0, 0⟩⟩, rfl, ?_⟩
      have hl3 := lt_of_block HC3.out
      have hbl3 := HN3.out.bl
      have hnew := CH.below_alloc w3 (.cells #[.int .i64 sl, .int .i64 li, .int .i64 g4, .int .i64 g2, .int .i64 g5, .pointer (some ⟨wr.heap.size, 0, none⟩), .pointer none, .slice none 0 0] 84)
      have t64 := HT.out.lt64
      have t10 := HT.out.lt10
      have hw3 := hbl3.size
      have g : ∀ x i, RA.g ⟨w3.heap.size, wr.heap.size, .slice none 0 0, ⟨0, 0, 0, 0, .pointer none, none, 0, 0, 0, none, 0, 0, 0⟩⟩ (newR sl li g4 g2 g5) x i → w.heap.size ≤ x := by
        rintro x i (e | e | e | ⟨j, e, _⟩)
        · exact e ▸ hw3
        · exact e ▸ hge
        · cases e
        · cases e
      refine ⟨⟨?_, (hnew.block _ hl3).trans HC3.out, fun j hj => (by cases hj), ⟨rfl, .inl ⟨rfl, rfl⟩⟩, Tbs_kp (G := fun _ _ => False) HT.out (Kp.of_below (hbl3.trans (hnew.mono hw3))) (fun _ h => h) (fun _ h => h), fun x i hx => by have := g x i hx; omega⟩, hbl3.trans (hnew.mono hw3), g⟩
      have e1 : ((sl.toNat : Nat) : Int) = sl := Int.toNat_of_nonneg (by omega)
      have e2 : ((li.toNat : Nat) : Int) = li := Int.toNat_of_nonneg (by omega)
      have e3 : ((g4.toNat : Nat) : Int) = g4 := Int.toNat_of_nonneg (by omega)
      have e4 : ((g2.toNat : Nat) : Int) = g2 := Int.toNat_of_nonneg (by omega)
      have e5 : ((g5.toNat : Nat) : Int) = g5 := Int.toNat_of_nonneg (by omega)
      rw [show rcs ⟨w3.heap.size, wr.heap.size, .slice none 0 0, ⟨0, 0, 0, 0, .pointer none, none, 0, 0, 0, none, 0, 0, 0⟩⟩ (newR sl li g4 g2 g5) = #[.int .i64 sl, .int .i64 li, .int .i64 g4, .int .i64 g2, .int .i64 g5, .pointer (some ⟨wr.heap.size, 0, none⟩), .pointer none, .slice none 0 0] by
        show (#[.int .i64 ((sl.toNat : Nat) : Int), .int .i64 ((li.toNat : Nat) : Int), .int .i64 ((g4.toNat : Nat) : Int), .int .i64 ((g2.toNat : Nat) : Int), .int .i64 ((g5.toNat : Nat) : Int), .pointer (some ⟨wr.heap.size, 0, none⟩), .pointer none, .slice none 0 0] : Array Value) = _
        rw [e1, e2, e3, e4, e5]]
      exact heap_alloc_new w3 _
end Go.Proofs.YtkfnedhllfdghaaGreatDoor.RN
end
