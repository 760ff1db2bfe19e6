import Derived.Test.YtapcmmljdpallaaSkC
namespace Go.Proofs.Ytapcmmljdpallaa.K
open Go.RowKit Go.MapKept
set_option maxRecDepth 8000

theorem hide {p : Prop} (h : p) : Hid p := h
theorem lt_blk {w : World} {k : Nat} {o : Obj} (h : w.heap[k]? = some o) : k < w.heap.size := (Array.getElem?_eq_some_iff.1 h).1
theorem info_parts {t : TypeId} {z : Option Value} {s b : Nat} (h : (Try.prog.info? t).map (fun i => (i.zero, i.size, i.bytes)) = some (z, s, b)) : ∃ i, Try.prog.info? t = some i ∧ i.zero = z ∧ i.size = s ∧ i.bytes = b := by
  cases hi : Try.prog.info? t with
  | none => rw [hi] at h; cases h
  | some i =>
    rw [hi] at h
    simp only [Option.map_some, Option.some.injEq, Prod.mk.injEq] at h
    exact ⟨i, rfl, h.1, h.2.1, h.2.2⟩
/-- what is told -/
structure Ev where
  job : Int
  bdg : Int
  idx : Int
  tx : ByteArray
def Ev.cs (d : Ev) : List Value := [.int .i64 13, .int .i64 0, .int .i64 0, .int .i64 0, .int .i64 d.job, .int .i64 d.bdg, .int .i64 d.idx, .int .i64 0, .int .i64 0, .int .i64 0, .int .u64 0, .string d.tx, .slice none 0 0]
theorem Ev.one (d : Ev) : ∀ u ∈ d.cs, u.oneCell' = true := by
  have : d.cs.all (fun u => u.oneCell') = true := rfl
  exact fun u hu => List.all_eq_true.1 this u hu
def ecs : List Ev → List Value
  | [] => []
  | d :: l => d.cs ++ ecs l
theorem ecs_snoc (l : List Ev) (d : Ev) : ecs (l ++ [d]) = ecs l ++ d.cs := by
  induction l with
  | nil => simp [ecs]
  | cons x l ih => simp only [List.cons_append, ecs, ih, List.append_assoc]
def ev0 : Value := .agg #[.int .i64 0, .int .i64 0, .int .i64 0, .int .i64 0, .int .i64 0, .int .i64 0, .int .i64 0, .int .i64 0, .int .i64 0, .int .i64 0, .int .u64 0, .string ByteArray.empty, .slice none 0 0]
theorem Try.infoS : (Try.prog.info? 9).map (fun i => (i.zero, i.size, i.bytes)) = some (some (.string ByteArray.empty), 1, 16) := by kernel_rfl
theorem Try.infoE : (Try.prog.info? 45).map (fun i => (i.zero, i.size, i.bytes)) = some (some ev0, 13, 128) := by kernel_rfl
theorem Try.infoA : (Try.prog.info? 49).map (fun i => (i.zero, i.size, i.bytes)) = some (some az0.val, 3, 40) := by kernel_rfl

theorem own_keep {w w' : World} {base n size : Nat} {e : TypeId} {v : Value} {xs : List Value} (h : w.ownsRow base e size v n xs) (hk : ∀ k, v.ownBlock = some k → w'.heap[k]? = w.heap[k]?) : w'.ownsRow base e size v n xs := by
  refine ⟨h.1, ?_⟩
  rcases h.2 with h1 | ⟨g, cap, cur, rfl, hb, hg, h2⟩
  · exact .inl h1
  · exact .inr ⟨g, cap, cur, rfl, hb, (hk g rfl).trans hg, h2⟩
theorem own_type {w : World} {base n size : Nat} {e : TypeId} {v : Value} {xs : List Value} (h : w.ownsRow base e size v n xs) (g : Nat) (hg : v.ownBlock = some g) : ∃ cs, w.heap[g]? = some (.cells cs e (0, 0)) := by
  rcases h.2 with ⟨h1, _⟩ | ⟨g', cap, cur, rfl, _, hg', _⟩
  · rw [h1] at hg; cases hg
  · cases hg
    exact ⟨_, hg'⟩
theorem own_apart {w : World} {base n size base' n' size' : Nat} {e e' : TypeId} {v v' : Value} {xs xs' : List Value} (h : w.ownsRow base e size v n xs) (h' : w.ownsRow base' e' size' v' n' xs') (hne : e ≠ e') (g : Nat) (hg : v.ownBlock = some g) : v'.ownBlock ≠ some g := fun hg' => by
  obtain ⟨c, h1⟩ := own_type h g hg
  obtain ⟨c', h2⟩ := own_type h' g hg'
  rw [h1] at h2
  injection h2 with h2
  injection h2 with _ h2
  exact hne h2
theorem own_slice {w : World} {B : Nat} {e : TypeId} {size n : Nat} {v : Value} {xs : List Value} (h : w.ownsRow B e size v n xs) : ∃ ad cap, v = .slice ad n cap := by
  rcases h.2 with ⟨h1, rfl⟩ | ⟨g, cap, cur, rfl, _⟩
  · exact ⟨_, _, h1⟩
  · exact ⟨_, _, rfl⟩
theorem own_base {W : World} {base : Nat} {e : TypeId} {size : Nat} {v : Value} {k : Nat} {xs : List Value} (h : W.ownsRow base e size v k xs) : W.ownsRow 0 e size v k xs := by
  refine ⟨h.1, ?_⟩
  rcases h.2 with hn | ⟨g, cap, cur, hv, hbg, rest⟩
  · exact .inl hn
  · exact .inr ⟨g, cap, cur, hv, Nat.zero_le _, rest⟩

section
variable {P : Program} (w : World)
/-- an append to a row of one's own: in its block, or in a new one -/
theorem run_append_two (base : Nat) (t ty e : TypeId) (i : TypeInfo) (z : Value) (size bytes : Nat) (ht : P.underlying t = some (.slice e)) (hi : P.info? e = some i) (hz : i.zero = some z)
    (hsize : i.size = size) (hby : i.bytes = bytes) (hzs : z.cells.size = size) (hsz : 0 < size)
    (v : Value) (n : Nat) (xs : List Value) (hown : w.ownsRow base e size v n xs)
    (a : Addr) (m c : Nat) (news : List Value) (hm : 0 < m) (hl : news.length = m * size) (hnews : ∀ j u, news[j]? = some u → w.cell? (a.add j) = some u) (h1 : ∀ u ∈ news, u.oneCell' = true)
    (h63 : n + m ≤ maxLen) (hbytes : (n + m) * bytes ≤ 140737488355328) (hbase : base ≤ w.heap.size) :
    ∃ v' w', (Builtin.append_ #[t, t] ty #[v, .slice (some a) m c]).run P w = .ok v' w' ∧ w'.ownsRow base e size v' (n + m) (xs ++ news) ∧ w.grownBy w' v.ownBlock ∧
      (v'.ownBlock = v.ownBlock ∨ (v'.ownBlock = some w.heap.size ∧ w.grownBy w' none)) := by
  obtain ⟨v', w', hr, h2, h3, _⟩ := run_append_own (P := P) w base t ty e i z size bytes ht hi hz hsize hby hzs hsz v n xs hown a m c news hl hnews h1 h63 hbytes hbase
  refine ⟨v', w', hr, h2, h3, ?_⟩
  have hsmall : n + m ≤ 9223372036854775807 := by simp only [maxLen] at h63; omega
  rcases hown.2 with ⟨rfl, rfl⟩ | ⟨g, cap, cur, rfl, hbg, hg, hnc, hcm, hcs, htake⟩
  · obtain ⟨v2, w2, hr2, h4, h5, _⟩ := run_append_own (P := P) w w.heap.size t ty e i z size bytes ht hi hz hsize hby hzs hsz (.slice none 0 0) 0 [] (World.ownsRow_nil _ _ _ _) a m c news hl hnews h1 h63 hbytes (Nat.le_refl _)
    rw [hr] at hr2
    injection hr2 with e1 e2
    subst e1; subst e2
    subst hsize; subst hby
    have hr3 := run_append_nil (P := P) w t ty e i z ht hi hz a m c news hl hnews (by omega) (by omega) (by have hb := hbytes; simp only [Nat.zero_add] at hb; omega)
    rw [hr] at hr3
    injection hr3 with e1 e2
    exact .inr ⟨by rw [e1]; rfl, h5⟩
  · subst hsize; subst hby
    by_cases hroom : n + m ≤ cap
    · have hfit : n * i.size + news.length ≤ cur.size := by rw [hl, hcs, ← Nat.add_mul]; exact Nat.mul_le_mul_right _ hroom
      have hr2 := run_append_room (P := P) w t ty e i ht hi g n cap cur hg a m c news hl hnews h1 hroom hfit
      rw [hr] at hr2
      injection hr2 with e1 e2
      exact .inl (by rw [e1]; rfl)
    · have holds : ∀ j u, xs[j]? = some u → w.cell? ((⟨g, 0, none⟩ : Addr).add j) = some u := hown.cells (g := g) rfl
      have hr2 := run_append_grow (P := P) w t ty e i z ht hi hz ⟨g, 0, none⟩ n cap xs hown.1 holds a m c news hl hnews (by omega) (by omega) (growslice_fits (by omega) hbytes)
      rw [hr] at hr2
      injection hr2 with e1 e2
      refine .inr ⟨by rw [e1]; rfl, ?_⟩
      rw [e2]
      exact ⟨rfl, rfl, rfl, by simp, fun k hk _ => (MapKept.heap_alloc w.drew _).2 k hk⟩
end

/-- a sink in memory; of the pieces of job j nothing is said -/
structure Sb (w : World) (b m : Nat) (A : List Az) (tv : Value) (T : List Ev) (j : Int) : Prop where
  blk : w.heap[b]? = some (.cells #[.map (some m), tv] 57 (0, 0))
  map : Lm w m A
  told : w.ownsRow 0 45 13 tv T.length (ecs T)
  pcs : ∀ x ∈ A, x.job ≠ j → w.ownsRow 0 9 1 x.sl x.pcs.length (tcs x.pcs)
  apart : ∀ x ∈ A, ∀ y ∈ A, x.job ≠ j → y.job ≠ j → x.job ≠ y.job → ∀ k, x.sl.ownBlock = some k → y.sl.ownBlock ≠ some k
  ok : ∀ x ∈ A, 1 ≤ x.job ∧ x.job ≤ 8 ∧ 1 ≤ x.bdg ∧ x.bdg ≤ 1099511627776 ∧ x.pcs.length ≤ 16
/-- its blocks -/
def Ft (b m : Nat) (A : List Az) (tv : Value) (j : Int) (k : Nat) : Prop := k = b ∨ k = m ∨ tv.ownBlock = some k ∨ ∃ x ∈ A, x.job ≠ j ∧ x.sl.ownBlock = some k
section
variable {w w' : World} {b m : Nat} {A : List Az} {tv : Value} {T : List Ev} {j : Int}
theorem Sb.keep (h : Sb w b m A tv T j) (hk : ∀ k, Ft b m A tv j k → w'.heap[k]? = w.heap[k]?) : Sb w' b m A tv T j :=
  ⟨(hk b (.inl rfl)).trans h.blk, h.map.keep (hk m (.inr (.inl rfl))), own_keep h.told fun k e => hk k (.inr (.inr (.inl e))), fun x hx hj => own_keep (h.pcs x hx hj) fun k e => hk k (.inr (.inr (.inr ⟨x, hx, hj, e⟩))), h.apart, h.ok⟩
theorem Sb.lt (h : Sb w b m A tv T j) : ∀ k, Ft b m A tv j k → k < w.heap.size := fun k hk => by
  rcases hk with rfl | rfl | e | ⟨x, hx, hj, e⟩
  · exact lt_blk h.blk
  · exact h.map.lt
  · exact (h.told.lt k e).2
  · exact ((h.pcs x hx hj).lt k e).2
theorem Sb.below (h : Sb w b m A tv T j) (hb : Below w.heap.size w w') : Sb w' b m A tv T j := h.keep fun k hk => hb.block k (h.lt k hk)
theorem Sb.c0 (h : Sb w b m A tv T j) : w.cell? ⟨b, 0, none⟩ = some (.map (some m)) := by simp [World.cell?, h.blk]
theorem Sb.c1 (h : Sb w b m A tv T j) : w.cell? ⟨b, 1, none⟩ = some tv := by simp [World.cell?, h.blk]
theorem Sb.z (h : Sb w b m A tv T j) (k : Nat) : w.frozen? ⟨b, k, none⟩ = false := by simp [World.frozen?, h.blk]
theorem Sb.bm (h : Sb w b m A tv T j) : b ≠ m := fun e => by
  obtain ⟨es, c, h1⟩ := h.map.block
  have h2 := h.blk
  rw [e, h1] at h2
  cases h2
theorem Sb.hole (h : Sb w b m A tv T 0) (j : Int) : Sb w b m A tv T j :=
  ⟨h.blk, h.map, h.told, fun x hx _ => h.pcs x hx (by have := (h.ok x hx).1; omega), fun x hx y hy _ _ => h.apart x hx y hy (by have := (h.ok x hx).1; omega) (by have := (h.ok y hy).1; omega), h.ok⟩
theorem Ft.hole {k : Nat} (h : Ft b m A tv j k) (h0 : ∀ x ∈ A, x.job ≠ 0) : Ft b m A tv 0 k := by
  rcases h with h | h | h | ⟨x, hx, hj, e⟩
  · exact .inl h
  · exact .inr (.inl h)
  · exact .inr (.inr (.inl h))
  · exact .inr (.inr (.inr ⟨x, hx, h0 x hx, e⟩))
/-- a row of texts has none of its other blocks -/
theorem Sb.row_ne (h : Sb w b m A tv T j) {e : TypeId} {size n base : Nat} {v : Value} {xs : List Value} (ho : w.ownsRow base e size v n xs) (h1 : e ≠ 57) (k : Nat) (hk : v.ownBlock = some k) : k ≠ b ∧ k ≠ m := by
  obtain ⟨c, hc⟩ := own_type ho k hk
  refine ⟨fun e1 => ?_, fun e1 => ?_⟩
  · subst e1
    have := h.blk
    rw [hc] at this
    injection this with this
    injection this with _ this
    exact h1 this
  · subst e1
    obtain ⟨es, c', h2⟩ := h.map.block
    rw [hc] at h2
    cases h2
end
/-- what a call turns: of the blocks those of F alone -/
structure Mv (F : Nat → Prop) (w w' : World) : Prop where
  os : w'.os = w.os
  tape : w'.tape = w.tape
  output : w'.output = w.output
  size : w.heap.size ≤ w'.heap.size
  block : ∀ k, k < w.heap.size → ¬ F k → w'.heap[k]? = w.heap[k]?
theorem Mv.refl (F : Nat → Prop) (w : World) : Mv F w w := ⟨rfl, rfl, rfl, Nat.le_refl _, fun _ _ _ => rfl⟩
theorem Mv.trans {F G : Nat → Prop} {x y z : World} (h : Mv F x y) (k : Mv G y z) (hs : ∀ i, G i → F i ∨ x.heap.size ≤ i) : Mv F x z :=
  ⟨k.os.trans h.os, k.tape.trans h.tape, k.output.trans h.output, Nat.le_trans h.size k.size, fun i hi h1 => (k.block i (Nat.lt_of_lt_of_le hi h.size) (fun hg => (hs i hg).elim h1 (fun h2 => by omega))).trans (h.block i hi h1)⟩
theorem Mv.of_below {F : Nat → Prop} {w w' : World} (h : Below w.heap.size w w') : Mv F w w' := ⟨h.os, h.tape, h.output, h.size, fun k hk _ => h.block k hk⟩
theorem Mv.of_grown {F : Nat → Prop} {w w' : World} {row : Option Nat} (h : w.grownBy w' row) (hr : ∀ k, row = some k → F k ∨ w.heap.size ≤ k) : Mv F w w' :=
  ⟨h.os, h.tape, h.output, h.size, fun k hk hf => h.block k hk (fun e => (hr k e.symm).elim hf (fun h2 => by omega))⟩
theorem Mv.grown {F : Nat → Prop} {x w w' : World} {row : Option Nat} (h : Mv F x w) (hg : w.grownBy w' row) (hr : ∀ k, row = some k → F k ∨ x.heap.size ≤ k) : Mv F x w' :=
  ⟨hg.os.trans h.os, hg.tape.trans h.tape, hg.output.trans h.output, Nat.le_trans h.size hg.size, fun k hk hf => (hg.block k (Nat.lt_of_lt_of_le hk h.size) (fun e => (hr k e.symm).elim hf (fun h2 => by omega))).trans (h.block k hk hf)⟩
theorem Mv.below {F : Nat → Prop} {x w w' : World} (h : Mv F x w) (hb : Below w.heap.size w w') : Mv F x w' :=
  ⟨hb.os.trans h.os, hb.tape.trans h.tape, hb.output.trans h.output, Nat.le_trans h.size hb.size, fun k hk hf => (hb.block k (Nat.lt_of_lt_of_le hk h.size)).trans (h.block k hk hf)⟩
theorem Mv.drewN {F : Nat → Prop} {x w : World} (h : Mv F x w) (n : Nat) : Mv F x (w.drewN n) := ⟨h.os, h.tape, h.output, h.size, h.block⟩
theorem grown_set (w : World) (b o : Nat) (v : Value) : w.grownBy (w.setCell ⟨b, o, none⟩ v) (some b) :=
  ⟨rfl, rfl, rfl, by simp [World.setCell], fun k _ hb => by
    have : b ≠ k := fun e => hb (by rw [e])
    simp [World.setCell, Array.getElem?_modify, this]⟩
theorem below_alloc (w : World) (o : Obj) : Below w.heap.size w (w.alloc o) := (Below.refl _ _).alloc (Nat.le_refl _) o
theorem below_of {w W w' : World} (h : Below w.heap.size w W) (k : Below W.heap.size W w') : Below w.heap.size w w' := h.trans (k.mono h.size)
theorem below_drewN (w : World) (k : Nat) : Below w.heap.size w (w.drewN k) := ⟨rfl, rfl, rfl, Nat.le_refl _, fun _ _ => rfl⟩
theorem one_new (w : World) (u : Value) (t : TypeId) : ∀ j x, [u][j]? = some x → (w.alloc (.cells #[u] t)).cell? ((⟨w.heap.size, 0, none⟩ : Addr).add j) = some x := by
  intro j x hj
  match j, hj with
  | 0, hj => simp at hj; subst hj; simp [Addr.add]

theorem field2 (a b : Int) (ad : Option Addr) (n cap : Nat) (w : World) : (Instr.field 49 (.agg #[.int .i64 a, .int .i64 b, .slice ad n cap]) 2).run Try.prog w = .ok (.slice ad n cap) w := by kernel_rfl
theorem field1 (a b : Int) (ad : Option Addr) (n cap : Nat) (w : World) : (Instr.field 49 (.agg #[.int .i64 a, .int .i64 b, .slice ad n cap]) 1).run Try.prog w = .ok (.int .i64 b) w := by kernel_rfl
/-- m[g] -/
theorem Lm.look1 {w : World} {m : Nat} {L : List Az} (h : Lm w m L) (g : Int) : (Instr.lookup 55 (.map (some m)) (.int .i64 g) false).run Try.prog w = .ok (fnd g L).val w := by
  obtain ⟨hR, es, clock, hb, hst, hp⟩ := h
  have hz : (zeroValue 49).run Try.prog w = .ok az0.val w := by kernel_rfl
  have ht : Try.prog.underlying 55 = some (.map 3 49) := Try.underlying55
  rcases findNow_spec (d := .int .i64) (k := .int .i64 g) rfl es.toList 0 (keys_key hp) with ⟨h1, h2⟩ | ⟨j, e, h1, h2, h3⟩
  · have hf : has g L = false := has_false.2 fun x hx e => by
      obtain ⟨y, hy, e2⟩ := mem_are hp hx
      simp only [kv, lkv, Prod.mk.injEq] at e2
      exact h2 y hy (by rw [e2.1, e])
    rw [fnd_none hf]
    simp [Instr.lookup, run_underlying ht, MapKept.run_getObj_map hb, run_checkKey Try.underlying3 (k := .int .i64 g) (d := .int .i64) rfl, run_findKey Try.underlying3 h1, hz, Result.andThen]
  · obtain ⟨y, hy, e2⟩ := keys_are hp e (List.mem_of_getElem? h2)
    simp only [kv, lkv, Prod.mk.injEq] at e2
    have eg : y.job = g := by
      have := e2.1
      rw [h3] at this
      injection this with _ this
      exact this.symm
    have hf : fnd g L = y := by rw [← eg]; exact fnd_at hR hy
    rw [hf, ← e2.2]
    simp [Instr.lookup, run_underlying ht, MapKept.run_getObj_map hb, run_checkKey Try.underlying3 (k := .int .i64 g) (d := .int .i64) rfl, run_findKey Try.underlying3 h1, Result.andThen]
/-- how many stand under a badge -/
def cntA (A : List Az) (job bdg : Int) : Int := if has job A = true ∧ (fnd job A).bdg = bdg then (fnd job A).pcs.length + 1 else 0
set_option maxHeartbeats 2000000 in
theorem count_any {w : World} {b m : Nat} {A : List Az} {tv : Value} {T : List Ev} {j : Int} (h : Sb w b m A tv T j) (job bdg : Int) :
    Calls Try.prog 17 #[.pointer (some ⟨b, 0, none⟩), .int .i64 job, .int .i64 bdg] w fun e w' => e = .returned (.int .i64 (cntA A job bdg)) ∧ Below w.heap.size w w' := by
  have c0 := h.c0
  have hlk := h.map.look job
  have hok : has job A = true → (fnd job A).pcs.length ≤ 16 := fun hh => (h.ok _ (fnd_mem hh).1).2.2.2.2
  unfold cntA
  clear h
  cases hh : has job A with
  | false =>
    rw [hh] at hlk
    simp only [Bool.false_eq_true, false_and, if_false]
    clear hok hh
    generalize fnd job A = x at *
    obtain ⟨xj, xb, ad, cap, pcs⟩ := x
    dsimp only [Az.val] at hlk
    go_enter Try.func17, Try.ntmps17
    go_wp2
    go_ret
    exact ⟨rfl, below_alloc _ _⟩
  | true =>
    rw [hh] at hlk hok
    have hl := hok rfl
    clear hok hh
    generalize fnd job A = x at *
    obtain ⟨xj, xb, ad, cap, pcs⟩ := x
    simp only [true_and]
    dsimp only [Az.val] at hlk
    simp only at hl
    by_cases hb : xb = bdg
    · have hb' : (xb == bdg) = true := by simpa using hb
      rw [if_pos hb]
      go_enter Try.func17, Try.ntmps17
      clear hb
      go_wp2
      go_ret
      exact ⟨rfl, below_alloc _ _⟩
    · have hb' : (xb == bdg) = false := by simpa using hb
      rw [if_neg hb]
      go_enter Try.func17, Try.ntmps17
      clear hb
      go_wp2
      go_ret
      exact ⟨rfl, below_alloc _ _⟩
theorem told_any {w : World} {b m : Nat} {A : List Az} {tv : Value} {T : List Ev} {j : Int} (h : Sb w b m A tv T j) :
    Calls Try.prog 10 #[.pointer (some ⟨b, 0, none⟩)] w fun e w' => e = .returned tv ∧ w' = w.setCell ⟨b, 1, none⟩ (.slice none 0 0) := by
  have c1 := h.c1
  have z1 := h.z 1
  obtain ⟨ad, cap, rfl⟩ := own_slice h.told
  clear h
  go_enter Try.func10, Try.ntmps10
  go_wp2
  go_ret
  exact ⟨rfl, rfl⟩
theorem new_any (w : World) : Calls Try.prog 6 #[] w fun e w' => e = .returned (.pointer (some ⟨w.heap.size + 1, 0, none⟩)) ∧ Sb w' (w.heap.size + 1) w.heap.size [] (.slice none 0 0) [] 0 ∧ Below w.heap.size w w' := by
  have hmm := @run_makeMap Try.prog
  go_enter Try.func6, Try.ntmps6
  go_wp2
  go_ret
  refine ⟨rfl, ⟨?_, (lm_new w).below (below_alloc _ _), World.ownsRow_nil _ _ _ _, fun x hx => absurd hx (List.not_mem_nil), fun x hx => absurd hx (List.not_mem_nil), fun x hx => absurd hx (List.not_mem_nil)⟩, (below_alloc w _).alloc (by simp) _⟩
  have := heap_alloc_new (w.alloc (.map #[] 0)) (.cells #[.map (some w.heap.size), .slice none 0 0] 57)
  rw [World.size_alloc] at this
  exact this
end Go.Proofs.Ytapcmmljdpallaa.K
