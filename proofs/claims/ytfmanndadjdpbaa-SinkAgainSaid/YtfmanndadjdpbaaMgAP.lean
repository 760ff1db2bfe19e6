import Derived.Test.YtfmanndadjdpbaaMgAO
import Derived.Deep.DeepAppendWide

section
namespace Go.Proofs.Ytfmanndadjdpbaa.K
open Go.RowKit Go.MapKept
set_option maxRecDepth 8000

theorem hide {p : Prop} (h : p) : Hid p := h
theorem lt_blk {w : World} {k : Nat} {o : Obj} (h : w.heap[k]? = some o) : k < w.heap.size := (Array.getElem?_eq_some_iff.1 h).1
theorem info_parts {t : TypeId} {z : Option Value} {s b : Nat} (h : (Try.prog.info? t).map (fun i => (i.zero, i.size, i.bytes)) = some (z, s, b)) : ∃ i, Try.prog.info? t = some i ∧ i.zero = z ∧ i.size = s ∧ i.bytes = b := by
  cases hi : Try.prog.info? t with
  | none => rw [hi] at h; cases h
  | some i =>
    rw [hi] at h
    simp only [Option.map_some, Option.some.injEq, Prod.mk.injEq] at h
    exact ⟨i, rfl, h.1, h.2.1, h.2.2⟩
/-- what is told -/
structure Ev where
  job : Int
  bdg : Int
  idx : Int
  tx : ByteArray
def Ev.cs (d : Ev) : List Value := [.int .i64 13, .int .i64 0, .int .i64 0, .int .i64 0, .int .i64 d.job, .int .i64 d.bdg, .int .i64 d.idx, .int .i64 0, .int .i64 0, .int .i64 0, .int .u64 0, .string d.tx, .slice none 0 0]
theorem Ev.one (d : Ev) : ∀ u ∈ d.cs, u.oneCell' = true := by
  have : d.cs.all (fun u => u.oneCell') = true := rfl
  exact fun u hu => List.all_eq_true.1 this u hu
def ecs : List Ev → List Value
  | [] => []
  | d :: l => d.cs ++ ecs l
theorem ecs_snoc (l : List Ev) (d : Ev) : ecs (l ++ [d]) = ecs l ++ d.cs := by
  induction l with
  | nil => simp [ecs]
  | cons x l ih => simp only [List.cons_append, ecs, ih, List.append_assoc]
def ev0 : Value := .agg #[.int .i64 0, .int .i64 0, .int .i64 0, .int .i64 0, .int .i64 0, .int .i64 0, .int .i64 0, .int .i64 0, .int .i64 0, .int .i64 0, .int .u64 0, .string ByteArray.empty, .slice none 0 0]
theorem Try.infoS : (Try.prog.info? 9).map (fun i => (i.zero, i.size, i.bytes)) = some (some (.string ByteArray.empty), 1, 16) := by kernel_rfl
theorem Try.infoE : (Try.prog.info? 69).map (fun i => (i.zero, i.size, i.bytes)) = some (some ev0, 13, 128) := by kernel_rfl
theorem Try.infoA : (Try.prog.info? 40).map (fun i => (i.zero, i.size, i.bytes)) = some (some az0.val, 3, 40) := by kernel_rfl

theorem own_keep {w w' : World} {base n size : Nat} {e : TypeId} {v : Value} {xs : List Value} (h : w.ownsRow base e size v n xs) (hk : ∀ k, v.ownBlock = some k → w'.heap[k]? = w.heap[k]?) : w'.ownsRow base e size v n xs := by
  refine ⟨h.1, ?_⟩
  rcases h.2 with h1 | ⟨g, cap, cur, rfl, hb, hg, h2⟩
  · exact .inl h1
  · exact .inr ⟨g, cap, cur, rfl, hb, (hk g rfl).trans hg, h2⟩
theorem own_type {w : World} {base n size : Nat} {e : TypeId} {v : Value} {xs : List Value} (h : w.ownsRow base e size v n xs) (g : Nat) (hg : v.ownBlock = some g) : ∃ cs, w.heap[g]? = some (.cells cs e (0, 0)) := by
  rcases h.2 with ⟨h1, _⟩ | ⟨g', cap, cur, rfl, _, hg', _⟩
  · rw [h1] at hg; cases hg
  · cases hg
    exact ⟨_, hg'⟩
theorem own_apart {w : World} {base n size base' n' size' : Nat} {e e' : TypeId} {v v' : Value} {xs xs' : List Value} (h : w.ownsRow base e size v n xs) (h' : w.ownsRow base' e' size' v' n' xs') (hne : e ≠ e') (g : Nat) (hg : v.ownBlock = some g) : v'.ownBlock ≠ some g := fun hg' => by
  obtain ⟨c, h1⟩ := own_type h g hg
  obtain ⟨c', h2⟩ := own_type h' g hg'
  rw [h1] at h2
  injection h2 with h2
  injection h2 with _ h2
  exact hne h2
theorem own_slice {w : World} {B : Nat} {e : TypeId} {size n : Nat} {v : Value} {xs : List Value} (h : w.ownsRow B e size v n xs) : ∃ ad cap, v = .slice ad n cap := by
  rcases h.2 with ⟨h1, rfl⟩ | ⟨g, cap, cur, rfl, _⟩
  · exact ⟨_, _, h1⟩
  · exact ⟨_, _, rfl⟩
theorem own_base {W : World} {base : Nat} {e : TypeId} {size : Nat} {v : Value} {k : Nat} {xs : List Value} (h : W.ownsRow base e size v k xs) : W.ownsRow 0 e size v k xs := by
  refine ⟨h.1, ?_⟩
  rcases h.2 with hn | ⟨g, cap, cur, hv, hbg, rest⟩
  · exact .inl hn
  · exact .inr ⟨g, cap, cur, hv, Nat.zero_le _, rest⟩

section
variable {P : Program} (w : World)
/-- an append to a row of one's own: in its block, or in a new one -/
theorem run_append_two (base : Nat) (t ty e : TypeId) (i : TypeInfo) (z : Value) (size bytes : Nat) (ht : P.underlying t = some (.slice e)) (hi : P.info? e = some i) (hz : i.zero = some z)
    (hsize : i.size = size) (hby : i.bytes = bytes) (hzs : z.cells.size = size) (hsz : 0 < size)
    (v : Value) (n : Nat) (xs : List Value) (hown : w.ownsRow base e size v n xs)
    (a : Addr) (m c : Nat) (news : List Value) (hm : 0 < m) (hl : news.length = m * size) (hnews : ∀ j u, news[j]? = some u → w.cell? (a.add j) = some u) (h1 : ∀ u ∈ news, u.oneCell' = true)
    (h63 : n + m ≤ maxLen) (hbytes : ((n + m) + (n + m) / 4 + 192) * bytes ≤ 281474976710656) (hbase : base ≤ w.heap.size) :
    ∃ v' w', (Builtin.append_ #[t, t] ty #[v, .slice (some a) m c]).run P w = .ok v' w' ∧ w'.ownsRow base e size v' (n + m) (xs ++ news) ∧ w.grownBy w' v.ownBlock ∧
      (v'.ownBlock = v.ownBlock ∨ (v'.ownBlock = some w.heap.size ∧ w.grownBy w' none)) := by
  obtain ⟨v', w', hr, h2, h3, _⟩ := run_append_own_wide (P := P) w base t ty e i z size bytes ht hi hz hsize hby hzs hsz v n xs hown a m c news hl hnews h1 h63 hbytes hbase
  refine ⟨v', w', hr, h2, h3, ?_⟩
  have hsmall : n + m ≤ 9223372036854775807 := by simp only [maxLen] at h63; omega
  rcases hown.2 with ⟨rfl, rfl⟩ | ⟨g, cap, cur, rfl, hbg, hg, hnc, hcm, hcs, htake⟩
  · obtain ⟨v2, w2, hr2, h4, h5, _⟩ := run_append_own_wide (P := P) w w.heap.size t ty e i z size bytes ht hi hz hsize hby hzs hsz (.slice none 0 0) 0 [] (World.ownsRow_nil _ _ _ _) a m c news hl hnews h1 h63 hbytes (Nat.le_refl _)
    rw [hr] at hr2
    injection hr2 with e1 e2
    subst e1; subst e2
    subst hsize; subst hby
    have hr3 := run_append_nil (P := P) w t ty e i z ht hi hz a m c news hl hnews (by omega) (by omega) (by have hb := hbytes; simp only [Nat.zero_add] at hb; exact Nat.le_trans (Nat.mul_le_mul_right _ (by omega)) hb)
    rw [hr] at hr3
    injection hr3 with e1 e2
    exact .inr ⟨by rw [e1]; rfl, h5⟩
  · subst hsize; subst hby
    by_cases hroom : n + m ≤ cap
    · have hfit : n * i.size + news.length ≤ cur.size := by rw [hl, hcs, ← Nat.add_mul]; exact Nat.mul_le_mul_right _ hroom
      have hr2 := run_append_room (P := P) w t ty e i ht hi g n cap cur hg a m c news hl hnews h1 hroom hfit
      rw [hr] at hr2
      injection hr2 with e1 e2
      exact .inl (by rw [e1]; rfl)
    · have holds : ∀ j u, xs[j]? = some u → w.cell? ((⟨g, 0, none⟩ : Addr).add j) = some u := hown.cells (g := g) rfl
      have hr2 := run_append_grow (P := P) w t ty e i z ht hi hz ⟨g, 0, none⟩ n cap xs hown.1 holds a m c news hl hnews (by omega) (by omega) (growslice_fits_wide (by omega) hbytes)
      rw [hr] at hr2
      injection hr2 with e1 e2
      refine .inr ⟨by rw [e1]; rfl, ?_⟩
      rw [e2]
      exact ⟨rfl, rfl, rfl, by simp, fun k hk _ => (MapKept.heap_alloc w.drew _).2 k hk⟩
end

/-- a sink in memory; of the pieces of job j nothing is said -/
structure Sb (w : World) (b m : Nat) (A : List Az) (tv : Value) (T : List Ev) (j : Int) : Prop where
  blk : w.heap[b]? = some (.cells #[.map (some m), tv] 46 (0, 0))
  map : Lm w m A
  told : w.ownsRow 0 69 13 tv T.length (ecs T)
  pcs : ∀ x ∈ A, x.job ≠ j → w.ownsRow 0 9 1 x.sl x.pcs.length (tcs x.pcs)
  apart : ∀ x ∈ A, ∀ y ∈ A, x.job ≠ j → y.job ≠ j → x.job ≠ y.job → ∀ k, x.sl.ownBlock = some k → y.sl.ownBlock ≠ some k
  ok : ∀ x ∈ A, 1 ≤ x.job ∧ x.job ≤ 8 ∧ 1 ≤ x.bdg ∧ x.bdg ≤ 1099511627776 ∧ x.pcs.length ≤ 16
/-- its blocks -/
def Ft (b m : Nat) (A : List Az) (tv : Value) (j : Int) (k : Nat) : Prop := k = b ∨ k = m ∨ tv.ownBlock = some k ∨ ∃ x ∈ A, x.job ≠ j ∧ x.sl.ownBlock = some k
section
variable {w w' : World} {b m : Nat} {A : List Az} {tv : Value} {T : List Ev} {j : Int}
theorem Sb.keep (h : Sb w b m A tv T j) (hk : ∀ k, Ft b m A tv j k → w'.heap[k]? = w.heap[k]?) : Sb w' b m A tv T j :=
  ⟨(hk b (.inl rfl)).trans h.blk, h.map.keep (hk m (.inr (.inl rfl))), own_keep h.told fun k e => hk k (.inr (.inr (.inl e))), fun x hx hj => own_keep (h.pcs x hx hj) fun k e => hk k (.inr (.inr (.inr ⟨x, hx, hj, e⟩))), h.apart, h.ok⟩
theorem Sb.lt (h : Sb w b m A tv T j) : ∀ k, Ft b m A tv j k → k < w.heap.size := fun k hk => by
  rcases hk with rfl | rfl | e | ⟨x, hx, hj, e⟩
  · exact lt_blk h.blk
  · exact h.map.lt
  · exact (h.told.lt k e).2
  · exact ((h.pcs x hx hj).lt k e).2
theorem Sb.below (h : Sb w b m A tv T j) (hb : Below w.heap.size w w') : Sb w' b m A tv T j := h.keep fun k hk => hb.block k (h.lt k hk)
theorem Sb.c0 (h : Sb w b m A tv T j) : w.cell? ⟨b, 0, none⟩ = some (.map (some m)) := by simp [World.cell?, h.blk]
theorem Sb.c1 (h : Sb w b m A tv T j) : w.cell? ⟨b, 1, none⟩ = some tv := by simp [World.cell?, h.blk]
theorem Sb.z (h : Sb w b m A tv T j) (k : Nat) : w.frozen? ⟨b, k, none⟩ = false := by simp [World.frozen?, h.blk]
theorem Sb.bm (h : Sb w b m A tv T j) : b ≠ m := fun e => by
  obtain ⟨es, c, h1⟩ := h.map.block
  have h2 := h.blk
  rw [e, h1] at h2
  cases h2
theorem Sb.hole (h : Sb w b m A tv T 0) (j : Int) : Sb w b m A tv T j :=
  ⟨h.blk, h.map, h.told, fun x hx _ => h.pcs x hx (by have := (h.ok x hx).1; omega), fun x hx y hy _ _ => h.apart x hx y hy (by have := (h.ok x hx).1; omega) (by have := (h.ok y hy).1; omega), h.ok⟩
theorem Ft.hole {k : Nat} (h : Ft b m A tv j k) (h0 : ∀ x ∈ A, x.job ≠ 0) : Ft b m A tv 0 k := by
  rcases h with h | h | h | ⟨x, hx, hj, e⟩
  · exact .inl h
  · exact .inr (.inl h)
  · exact .inr (.inr (.inl h))
  · exact .inr (.inr (.inr ⟨x, hx, h0 x hx, e⟩))
/-- a row of texts has none of its other blocks -/
theorem Sb.row_ne (h : Sb w b m A tv T j) {e : TypeId} {size n base : Nat} {v : Value} {xs : List Value} (ho : w.ownsRow base e size v n xs) (h1 : e ≠ 46) (k : Nat) (hk : v.ownBlock = some k) : k ≠ b ∧ k ≠ m := by
  obtain ⟨c, hc⟩ := own_type ho k hk
  refine ⟨fun e1 => ?_, fun e1 => ?_⟩
  · subst e1
    have := h.blk
    rw [hc] at this
    injection this with this
    injection this with _ this
    exact h1 this
  · subst e1
    obtain ⟨es, c', h2⟩ := h.map.block
    rw [hc] at h2
    cases h2
end
/-- what a call turns: of the blocks those of F alone -/
structure Mv (F : Nat → Prop) (w w' : World) : Prop where
  os : w'.os = w.os
  tape : w'.tape = w.tape
  output : w'.output = w.output
  size : w.heap.size ≤ w'.heap.size
  block : ∀ k, k < w.heap.size → ¬ F k → w'.heap[k]? = w.heap[k]?
theorem Mv.refl (F : Nat → Prop) (w : World) : Mv F w w := ⟨rfl, rfl, rfl, Nat.le_refl _, fun _ _ _ => rfl⟩
theorem Mv.trans {F G : Nat → Prop} {x y z : World} (h : Mv F x y) (k : Mv G y z) (hs : ∀ i, G i → F i ∨ x.heap.size ≤ i) : Mv F x z :=
  ⟨k.os.trans h.os, k.tape.trans h.tape, k.output.trans h.output, Nat.le_trans h.size k.size, fun i hi h1 => (k.block i (Nat.lt_of_lt_of_le hi h.size) (fun hg => (hs i hg).elim h1 (fun h2 => by omega))).trans (h.block i hi h1)⟩
theorem Mv.of_below {F : Nat → Prop} {w w' : World} (h : Below w.heap.size w w') : Mv F w w' := ⟨h.os, h.tape, h.output, h.size, fun k hk _ => h.block k hk⟩
theorem Mv.of_grown {F : Nat → Prop} {w w' : World} {row : Option Nat} (h : w.grownBy w' row) (hr : ∀ k, row = some k → F k ∨ w.heap.size ≤ k) : Mv F w w' :=
  ⟨h.os, h.tape, h.output, h.size, fun k hk hf => h.block k hk (fun e => (hr k e.symm).elim hf (fun h2 => by omega))⟩
theorem Mv.grown {F : Nat → Prop} {x w w' : World} {row : Option Nat} (h : Mv F x w) (hg : w.grownBy w' row) (hr : ∀ k, row = some k → F k ∨ x.heap.size ≤ k) : Mv F x w' :=
  ⟨hg.os.trans h.os, hg.tape.trans h.tape, hg.output.trans h.output, Nat.le_trans h.size hg.size, fun k hk hf => (hg.block k (Nat.lt_of_lt_of_le hk h.size) (fun e => (hr k e.symm).elim hf (fun h2 => by omega))).trans (h.block k hk hf)⟩
theorem Mv.below {F : Nat → Prop} {x w w' : World} (h : Mv F x w) (hb : Below w.heap.size w w') : Mv F x w' :=
  ⟨hb.os.trans h.os, hb.tape.trans h.tape, hb.output.trans h.output, Nat.le_trans h.size hb.size, fun k hk hf => (hb.block k (Nat.lt_of_lt_of_le hk h.size)).trans (h.block k hk hf)⟩
theorem Mv.drewN {F : Nat → Prop} {x w : World} (h : Mv F x w) (n : Nat) : Mv F x (w.drewN n) := ⟨h.os, h.tape, h.output, h.size, h.block⟩
theorem grown_set (w : World) (b o : Nat) (v : Value) : w.grownBy (w.setCell ⟨b, o, none⟩ v) (some b) :=
  ⟨rfl, rfl, rfl, by simp [World.setCell], fun k _ hb => by
    have : b ≠ k := fun e => hb (by rw [e])
    simp [World.setCell, Array.getElem?_modify, this]⟩
theorem below_alloc (w : World) (o : Obj) : Below w.heap.size w (w.alloc o) := (Below.refl _ _).alloc (Nat.le_refl _) o
theorem below_of {w W w' : World} (h : Below w.heap.size w W) (k : Below W.heap.size W w') : Below w.heap.size w w' := h.trans (k.mono h.size)
theorem below_drewN (w : World) (k : Nat) : Below w.heap.size w (w.drewN k) := ⟨rfl, rfl, rfl, Nat.le_refl _, fun _ _ => rfl⟩
theorem one_new (w : World) (u : Value) (t : TypeId) : ∀ j x, [u][j]? = some x → (w.alloc (.cells #[u] t)).cell? ((⟨w.heap.size, 0, none⟩ : Addr).add j) = some x := by
  intro j x hj
  match j, hj with
  | 0, hj => simp at hj; subst hj; simp [Addr.add]

theorem field2 (a b : Int) (ad : Option Addr) (n cap : Nat) (w : World) : (Instr.field 40 (.agg #[.int .i64 a, .int .i64 b, .slice ad n cap]) 2).run Try.prog w = .ok (.slice ad n cap) w := by kernel_rfl
theorem field1 (a b : Int) (ad : Option Addr) (n cap : Nat) (w : World) : (Instr.field 40 (.agg #[.int .i64 a, .int .i64 b, .slice ad n cap]) 1).run Try.prog w = .ok (.int .i64 b) w := by kernel_rfl
/-- m[g] -/
theorem Lm.look1 {w : World} {m : Nat} {L : List Az} (h : Lm w m L) (g : Int) : (Instr.lookup 44 (.map (some m)) (.int .i64 g) false).run Try.prog w = .ok (fnd g L).val w := by
  obtain ⟨hR, es, clock, hb, hst, hp⟩ := h
  have hz : (zeroValue 40).run Try.prog w = .ok az0.val w := by kernel_rfl
  have ht : Try.prog.underlying 44 = some (.map 3 40) := Try.underlying44
  rcases findNow_spec (d := .int .i64) (k := .int .i64 g) rfl es.toList 0 (keys_key hp) with ⟨h1, h2⟩ | ⟨j, e, h1, h2, h3⟩
  · have hf : has g L = false := has_false.2 fun x hx e => by
      obtain ⟨y, hy, e2⟩ := mem_are hp hx
      simp only [kv, lkv, Prod.mk.injEq] at e2
      exact h2 y hy (by rw [e2.1, e])
    rw [fnd_none hf]
    simp [Instr.lookup, run_underlying ht, MapKept.run_getObj_map hb, run_checkKey Try.underlying3 (k := .int .i64 g) (d := .int .i64) rfl, run_findKey Try.underlying3 h1, hz, Result.andThen]
  · obtain ⟨y, hy, e2⟩ := keys_are hp e (List.mem_of_getElem? h2)
    simp only [kv, lkv, Prod.mk.injEq] at e2
    have eg : y.job = g := by
      have := e2.1
      rw [h3] at this
      injection this with _ this
      exact this.symm
    have hf : fnd g L = y := by rw [← eg]; exact fnd_at hR hy
    rw [hf, ← e2.2]
    simp [Instr.lookup, run_underlying ht, MapKept.run_getObj_map hb, run_checkKey Try.underlying3 (k := .int .i64 g) (d := .int .i64) rfl, run_findKey Try.underlying3 h1, Result.andThen]
/-- how many stand under a badge -/
def cntA (A : List Az) (job bdg : Int) : Int := if has job A = true ∧ (fnd job A).bdg = bdg then (fnd job A).pcs.length + 1 else 0
set_option maxHeartbeats 2000000 in
theorem count_any {w : World} {b m : Nat} {A : List Az} {tv : Value} {T : List Ev} {j : Int} (h : Sb w b m A tv T j) (job bdg : Int) :
    Calls Try.prog 12 #[.pointer (some ⟨b, 0, none⟩), .int .i64 job, .int .i64 bdg] w fun e w' => e = .returned (.int .i64 (cntA A job bdg)) ∧ Below w.heap.size w w' := by
  have c0 := h.c0
  have hlk := h.map.look job
  have hok : has job A = true → (fnd job A).pcs.length ≤ 16 := fun hh => (h.ok _ (fnd_mem hh).1).2.2.2.2
  unfold cntA
  clear h
  cases hh : has job A with
  | false =>
    rw [hh] at hlk
    simp only [Bool.false_eq_true, false_and, if_false]
    clear hok hh
    generalize fnd job A = x at *
    obtain ⟨xj, xb, ad, cap, pcs⟩ := x
    dsimp only [Az.val] at hlk
    go_enter Try.func12, Try.ntmps12
    go_wp2
    go_ret
    exact ⟨rfl, below_alloc _ _⟩
  | true =>
    rw [hh] at hlk hok
    have hl := hok rfl
    clear hok hh
    generalize fnd job A = x at *
    obtain ⟨xj, xb, ad, cap, pcs⟩ := x
    simp only [true_and]
    dsimp only [Az.val] at hlk
    simp only at hl
    by_cases hb : xb = bdg
    · have hb' : (xb == bdg) = true := by simpa using hb
      rw [if_pos hb]
      go_enter Try.func12, Try.ntmps12
      clear hb
      go_wp2
      go_ret
      exact ⟨rfl, below_alloc _ _⟩
    · have hb' : (xb == bdg) = false := by simpa using hb
      rw [if_neg hb]
      go_enter Try.func12, Try.ntmps12
      clear hb
      go_wp2
      go_ret
      exact ⟨rfl, below_alloc _ _⟩
theorem told_any {w : World} {b m : Nat} {A : List Az} {tv : Value} {T : List Ev} {j : Int} (h : Sb w b m A tv T j) :
    Calls Try.prog 9 #[.pointer (some ⟨b, 0, none⟩)] w fun e w' => e = .returned tv ∧ w' = w.setCell ⟨b, 1, none⟩ (.slice none 0 0) := by
  have c1 := h.c1
  have z1 := h.z 1
  obtain ⟨ad, cap, rfl⟩ := own_slice h.told
  clear h
  go_enter Try.func9, Try.ntmps9
  go_wp2
  go_ret
  exact ⟨rfl, rfl⟩
theorem new_any (w : World) : Calls Try.prog 5 #[] w fun e w' => e = .returned (.pointer (some ⟨w.heap.size + 1, 0, none⟩)) ∧ Sb w' (w.heap.size + 1) w.heap.size [] (.slice none 0 0) [] 0 ∧ Below w.heap.size w w' := by
  have hmm := @run_makeMap Try.prog
  go_enter Try.func5, Try.ntmps5
  go_wp2
  go_ret
  refine ⟨rfl, ⟨?_, (lm_new w).below (below_alloc _ _), World.ownsRow_nil _ _ _ _, fun x hx => absurd hx (List.not_mem_nil), fun x hx => absurd hx (List.not_mem_nil), fun x hx => absurd hx (List.not_mem_nil)⟩, (below_alloc w _).alloc (by simp) _⟩
  have := heap_alloc_new (w.alloc (.map #[] 0)) (.cells #[.map (some w.heap.size), .slice none 0 0] 46)
  rw [World.size_alloc] at this
  exact this
end Go.Proofs.Ytfmanndadjdpbaa.K
end

section
namespace Go.Proofs.Ytfmanndadjdpbaa.K
open Go.RowKit Go.MapKept
set_option maxRecDepth 8000

section
variable {P : Program} {w : World}
theorem wpList_append_two {ops : Array Oper} {rest : List Oper} {o : Oper} {a : Act} {Q : Exit → Act → World → Prop} (hgd : o.guard = none) (s x : Operand) (t : TypeId)
    (ho : o.op = .call { callee := .builtin .append, args := #[s, x], argTypes := #[t, t] })
    (base : Nat) (e : TypeId) (i : TypeInfo) (z : Value) (size bytes : Nat) (ht : P.underlying t = some (.slice e)) (hi : P.info? e = some i) (hz : i.zero = some z)
    (hsize : i.size = size) (hby : i.bytes = bytes) (hzs : z.cells.size = size) (hsz : 0 < size)
    (v : Value) (n : Nat) (xs : List Value) (hs : a.eval s = v) (hown : w.ownsRow base e size v n xs)
    (ad : Addr) (m c : Nat) (news : List Value) (hm : 0 < m) (hx : a.eval x = .slice (some ad) m c) (hl : news.length = m * size) (hnews : ∀ j u, news[j]? = some u → w.cell? (ad.add j) = some u) (h1 : ∀ u ∈ news, u.oneCell' = true)
    (h63 : n + m ≤ maxLen) (hbytes : ((n + m) + (n + m) / 4 + 192) * bytes ≤ 281474976710656) (hbase : base ≤ w.heap.size)
    (h : ∀ v' w', w'.ownsRow base e size v' (n + m) (xs ++ news) → w.grownBy w' v.ownBlock → (v'.ownBlock = v.ownBlock ∨ (v'.ownBlock = some w.heap.size ∧ w.grownBy w' none)) → wpList P ops Q rest (a.put o.dst v') w') : wpList P ops Q (o :: rest) a w :=
  wpList_plain hgd fun K hK => by
    obtain ⟨v', w', hr, h2, h3, h4⟩ := run_append_two (P := P) w base t o.type e i z size bytes ht hi hz hsize hby hzs hsz v n xs hown ad m c news hm hl hnews h1 h63 hbytes hbase
    unfold Oper.wp execOp
    simp only [ho, resolve, invoke, builtin, Sem.run_bind, Sem.run_pure, Result.andThen_ok, List.map_toArray, List.map_cons, List.map_nil, hs, hx, hr]
    exact hK _ _ (h v' w' h2 h3 h4)
end
section
variable {w w' w1 : World} {b m : Nat} {A : List Az} {tv tv' : Value} {T T' : List Ev} {j : Int}
theorem Lm.drew (h : Lm w m A) : Lm w.drew m A := h.keep rfl
theorem Sb.store (h : Sb w b m A tv T j) {x : Az} (hj : x.job = j) (hok : 1 ≤ x.job ∧ x.job ≤ 8 ∧ 1 ≤ x.bdg ∧ x.bdg ≤ 1099511627776 ∧ x.pcs.length ≤ 16) (ho : w.ownsRow 0 9 1 x.sl x.pcs.length (tcs x.pcs))
    (hap : ∀ y ∈ A, y.job ≠ j → ∀ k, x.sl.ownBlock = some k → y.sl.ownBlock ≠ some k) (hm : Lm w' m (put x A)) (hg : w.grownBy w' (some m)) : Sb w' b m (put x A) tv T 0 := by
  subst hj
  have hk : ∀ {e : TypeId} {size n base : Nat} {v : Value} {xs : List Value}, w.ownsRow base e size v n xs → e ≠ 46 → w'.ownsRow base e size v n xs := fun ho hne => own_keep ho fun k e => hg.block k ((ho.lt k e).2) (fun e2 => (h.row_ne ho hne k e).2 (by cases e2; rfl))
  refine ⟨(hg.block b (lt_blk h.blk) (fun e => h.bm (by cases e; rfl))).trans h.blk, hm, hk h.told (by decide), fun y hy _ => ?_, fun y hy z hz _ _ hyz k hk1 => ?_, fun y hy => ?_⟩
  · rcases mem_put.1 hy with rfl | ⟨hy, hne⟩
    · exact hk ho (by decide)
    · exact hk (h.pcs y hy hne) (by decide)
  · rcases mem_put.1 hy with e1 | ⟨hy1, hne⟩
    · rcases mem_put.1 hz with e2 | ⟨hz1, hne2⟩
      · exact absurd (by rw [e1, e2]) hyz
      · exact hap z hz1 hne2 k (by rw [← e1]; exact hk1)
    · rcases mem_put.1 hz with e2 | ⟨hz1, hne2⟩
      · exact fun e => hap y hy1 hne k (by rw [← e2]; exact e) hk1
      · exact h.apart y hy1 z hz1 hne hne2 hyz k hk1
  · rcases mem_put.1 hy with rfl | ⟨hy, _⟩
    · exact hok
    · exact h.ok y hy
theorem Sb.z4 (h : Sb w b m A tv T j) (hg : w.grownBy w1 tv.ownBlock) (k : Nat) : w1.frozen? ⟨b, k, none⟩ = false ∧ w1.cell? ⟨b, 1, none⟩ = some tv := by
  have hb1 : w1.heap[b]? = w.heap[b]? := hg.block b (lt_blk h.blk) fun e => (h.row_ne h.told (by decide) b e.symm).1 rfl
  simp [World.frozen?, World.cell?, hb1.trans h.blk]
theorem Sb.tell (h : Sb w b m A tv T 0) (hg : w.grownBy w1 tv.ownBlock) (ho : w1.ownsRow 0 69 13 tv' T'.length (ecs T')) : Sb (w1.setCell ⟨b, 1, none⟩ tv') b m A tv' T' 0 := by
  have hbl := lt_blk h.blk
  have hb1 : w1.heap[b]? = w.heap[b]? := hg.block b hbl fun e => (h.row_ne h.told (by decide) b e.symm).1 rfl
  have hm1 : w1.heap[m]? = w.heap[m]? := hg.block m h.map.lt fun e => (h.row_ne h.told (by decide) m e.symm).2 rfl
  have hset : ∀ k, k ≠ b → (w1.setCell ⟨b, 1, none⟩ tv').heap[k]? = w1.heap[k]? := fun k hk => by simp [World.setCell, Array.getElem?_modify, Ne.symm hk]
  have hp1 : ∀ y ∈ A, y.job ≠ 0 → w1.ownsRow 0 9 1 y.sl y.pcs.length (tcs y.pcs) := fun y hy hj => own_keep (h.pcs y hy hj) fun k e => hg.block k (((h.pcs y hy hj).lt k e).2) (fun e2 => own_apart (h.pcs y hy hj) h.told (by decide) k e e2.symm)
  have hkb : ∀ {e : TypeId} {size n base : Nat} {v : Value} {xs : List Value}, w1.ownsRow base e size v n xs → e ≠ 46 → (w1.setCell ⟨b, 1, none⟩ tv').ownsRow base e size v n xs := fun ho hne => own_keep ho fun k e => hset k fun e1 => by
    obtain ⟨c, hc⟩ := own_type ho k e
    rw [e1, hb1, h.blk] at hc
    injection hc with hc
    injection hc with _ hc
    exact hne hc.symm
  refine ⟨?_, h.map.keep ((hset m (Ne.symm h.bm)).trans hm1), hkb ho (by decide), fun y hy hj => hkb (hp1 y hy hj) (by decide), h.apart, h.ok⟩
  have := hb1.trans h.blk
  simp only [World.setCell, Array.getElem?_modify]
  rw [this]
  simp
end
/-- behind an admission -/
def AdP (b m : Nat) (A : List Az) (tv : Value) (T : List Ev) (job bdg idx : Int) (t : ByteArray) (ps : List ByteArray) (w w' : World) : Prop :=
  ∃ x tv', x.job = job ∧ x.bdg = bdg ∧ x.pcs = ps ∧ Sb w' b m (put x A) tv' (T ++ [⟨job, bdg, idx, t⟩]) 0 ∧ Mv (Ft b m A tv 0) w w' ∧ ∀ k, Ft b m (put x A) tv' 0 k → Ft b m A tv 0 k ∨ w.heap.size ≤ k

set_option maxHeartbeats 4000000 in
theorem admit_zero {w : World} {b m : Nat} {A : List Az} {tv : Value} {T : List Ev} (h : Sb w b m A tv T 0) {job bdg : Int} (hj : 1 ≤ job ∧ job ≤ 8) (hb : 1 ≤ bdg ∧ bdg ≤ 1099511627776) (hT : T.length ≤ 1600000000000) (t : ByteArray) :
    Calls Try.prog 13 #[.pointer (some ⟨b, 0, none⟩), .int .i64 job, .int .i64 bdg, .int .i64 0, .string t] w fun e w' => e = .returned (.tuple #[]) ∧ AdP b m A tv T job bdg 0 t [] w w' := by
  obtain ⟨iE, hiE, zE0, zE1, zE2⟩ := info_parts Try.infoE
  have H := hide h
  have HJ := hide hj
  have HB := hide hb
  have h1 := (h.hole job).below (below_alloc w (.cells #[.int .i64 job, .int .i64 bdg, .slice none 0 0] 40))
  have c0 := h1.c0
  obtain ⟨w2, hst, hL2, hg2⟩ := h1.map.drew.store ⟨job, bdg, none, 0, []⟩
  have HS : Hid (Sb w2 b m (put ⟨job, bdg, none, 0, []⟩ A) tv T 0) := hide (h1.store (x := ⟨job, bdg, none, 0, []⟩) rfl ⟨hj.1, hj.2, hb.1, hb.2, by simp⟩ (World.ownsRow_nil _ _ _ _) (fun y hy hne k e => by cases e) hL2 ⟨hg2.os, hg2.tape, hg2.output, hg2.size, hg2.block⟩)
  have HM : Hid (Mv (Ft b m A tv 0) w w2) := hide ((Mv.of_below (below_alloc w _)).grown (w := w.alloc (.cells #[.int .i64 job, .int .i64 bdg, .slice none 0 0] 40)) ⟨hg2.os, hg2.tape, hg2.output, hg2.size, hg2.block⟩ (fun k e => by cases e; exact .inl (.inr (.inl rfl))))
  have c1 := HS.out.c1
  obtain ⟨ad, cap, hv⟩ := own_slice h.told
  subst hv
  have HO : Hid ((w2.alloc (.cells (Ev.cs ⟨job, bdg, 0, t⟩).toArray 69)).ownsRow 0 69 13 (.slice ad T.length cap) T.length (ecs T)) := hide (HS.out.below (below_alloc w2 _)).told
  have hlt : b < w2.heap.size := lt_blk HS.out.blk
  have HS3 := hide (HS.out.below (below_alloc w2 (.cells (Ev.cs ⟨job, bdg, 0, t⟩).toArray 69)))
  have HZ : Hid (∀ w4, (w2.alloc (.cells (Ev.cs ⟨job, bdg, 0, t⟩).toArray 69)).grownBy w4 (Value.slice ad T.length cap).ownBlock → w4.frozen? ⟨b, 1, none⟩ = false ∧ w4.cell? ⟨b, 1, none⟩ = some (Value.slice ad T.length cap)) := hide fun w4 hg => HS3.out.z4 hg 1
  dsimp only [Az.val, List.length_nil] at hst
  clear h h1 hj hb hL2 hg2
  go_enter Try.func13, Try.ntmps13
  go_wp2
  go_region
  go_wp2_with (at_builtin; refine wpList_append_two rfl _ _ 36 rfl 0 69 iE ev0 13 128 Try.underlying36 hiE zE0 zE1 zE2 rfl (by decide) (.slice ad T.length cap) T.length (ecs T) rfl HO.out ⟨w2.heap.size, 0, none⟩ 1 1 (Ev.cs ⟨job, bdg, 0, t⟩) (by decide) rfl rfl (World.news_of_block (heap_alloc_new w2 _)) (Ev.one _) (by unfold maxLen; omega) (by omega) (by omega) ?_; intro v' w4 hown hgrow htwo; have HO4 := hide hown; have HG4 := hide hgrow; have H24 := hide htwo; (obtain ⟨z4, c4⟩ := HZ.out _ hgrow); (obtain ⟨ad4, cap4, hv4⟩ := own_slice hown); subst hv4; clear hown hgrow htwo)
  go_end0
  refine ⟨rfl, ⟨job, bdg, none, 0, []⟩, _, rfl, rfl, rfl, HS3.out.tell HG4.out (T' := T ++ [⟨job, bdg, 0, t⟩]) (by rw [ecs_snoc, List.length_append]; exact HO4.out), ?_, ?_⟩
  · refine ((HM.out.below (below_alloc w2 _)).grown HG4.out (fun k e => .inl (.inr (.inr (.inl e))))).grown (grown_set w4 b 1 _) (fun k e => .inl ?_)
    cases e
    exact .inl rfl
  · have hsz : w.heap.size ≤ w2.heap.size := HM.out.size
    intro k hk
    rcases hk with e | e | e | ⟨x, hx, hx0, e⟩
    · exact .inl (.inl e)
    · exact .inl (.inr (.inl e))
    · rcases H24.out with e2 | ⟨e2, _⟩
      · exact .inl (.inr (.inr (.inl (e2.symm.trans e))))
      · rw [e] at e2
        injection e2 with e2
        rw [World.size_alloc] at e2
        exact .inr (by omega)
    · rcases mem_put.1 hx with rfl | ⟨hx1, _⟩
      · cases e
      · exact .inl (.inr (.inr (.inr ⟨x, hx1, hx0, e⟩)))
end Go.Proofs.Ytfmanndadjdpbaa.K
end

section
namespace Go.Proofs.Ytfmanndadjdpbaa.K
open Go.RowKit Go.MapKept
set_option maxRecDepth 8000

theorem one_at {w : World} {k : Nat} (hk : k = w.heap.size) (u : Value) (t : TypeId) : ∀ j x, [u][j]? = some x → (w.alloc (.cells #[u] t)).cell? ((⟨k, 0, none⟩ : Addr).add j) = some x := by
  subst hk
  exact one_new w u t
theorem four_of {w : World} {B : Nat} {a b c : Value} {t : TypeId} (h : w.heap[B]? = some (.cells #[a, b, c] t (0, 0))) : w.cell? ⟨B, 0, none⟩ = some a ∧ w.cell? ⟨B, 1, none⟩ = some b ∧ w.cell? ⟨B, 2, none⟩ = some c ∧ ∀ k, w.frozen? ⟨B, k, none⟩ = false := by
  simp [World.cell?, World.frozen?, h]
set_option maxHeartbeats 4000000 in
theorem admit_more {w : World} {b m : Nat} {A : List Az} {tv : Value} {T : List Ev} (h : Sb w b m A tv T 0) {job bdg idx : Int} (hb : 1 ≤ bdg ∧ bdg ≤ 1099511627776) (hh : has job A = true) (hl : (fnd job A).pcs.length < 16) (hi : 0 < idx) (hT : T.length ≤ 1600000000000) (t : ByteArray) :
    Calls Try.prog 13 #[.pointer (some ⟨b, 0, none⟩), .int .i64 job, .int .i64 bdg, .int .i64 idx, .string t] w fun e w' => e = .returned (.tuple #[]) ∧ AdP b m A tv T job bdg idx t ((fnd job A).pcs ++ [t]) w w' := by
  obtain ⟨iE, hiE, zE0, zE1, zE2⟩ := info_parts Try.infoE
  obtain ⟨iS, hiS, zS0, zS1, zS2⟩ := info_parts Try.infoS
  have HB := hide hb
  have HX : Hid (fnd job A ∈ A ∧ (fnd job A).job = job) := hide (fnd_mem hh)
  have hjob := h.ok _ HX.out.1
  rw [HX.out.2] at hjob
  have HJ : Hid (1 ≤ job ∧ job ≤ 8) := hide ⟨hjob.1, hjob.2.1⟩
  have h0 : (fnd job A).job ≠ 0 := by rw [HX.out.2]; omega
  have hown := h.pcs _ HX.out.1 h0
  have HAP : Hid (∀ y ∈ A, y.job ≠ job → ∀ k, (fnd job A).sl.ownBlock = some k → y.sl.ownBlock ≠ some k) := hide fun y hy hne k e => h.apart _ HX.out.1 y hy h0 (by have := (h.ok y hy).1; omega) (by rw [HX.out.2]; exact Ne.symm hne) k e
  have hlk := fun o => (h.map.below (below_alloc w o)).look1 job
  have hf2 := field2
  have hi' : decide (idx > 0) = true := by simpa using hi
  have hd1 : decide (0 < idx) = true := by simpa using hi
  generalize hx : fnd job A = x at *
  obtain ⟨xj, xb, ad0, cap0, pcs⟩ := x
  simp only at h0 hown hl
  have HX0 : Hid (xj ≠ 0) := hide h0
  dsimp only [Az.val] at hlk
  clear hx hjob h0 hh
  have b2 := (below_alloc w (.cells #[.int .i64 job, .int .i64 bdg, .slice none 0 0] 40)).alloc (Nat.le_of_lt (by simp)) (.cells #[.string t] 9)
  have c0 := (h.below (below_alloc w (.cells #[.int .i64 job, .int .i64 bdg, .slice none 0 0] 40))).c0
  have HS2 := hide ((h.hole job).below b2)
  have HO2 : Hid (((w.alloc (.cells #[.int .i64 job, .int .i64 bdg, .slice none 0 0] 40)).alloc (.cells #[.string t] 9)).ownsRow 0 9 1 (.slice ad0 pcs.length cap0) pcs.length (tcs pcs)) := hide (own_keep hown fun k e => b2.block k (hown.lt k e).2)
  have HLT : Hid (∀ k, Ft b m A tv job k → k < w.heap.size) := hide (h.hole job).lt
  have HOL : Hid (∀ k, (Value.slice ad0 pcs.length cap0).ownBlock = some k → k < w.heap.size ∧ k ≠ b ∧ k ≠ m ∧ tv.ownBlock ≠ some k) := hide fun k e => ⟨(hown.lt k e).2, (h.row_ne hown (by decide) k e).1, (h.row_ne hown (by decide) k e).2, own_apart hown h.told (by decide) k e⟩
  have HH0 := hide h
  obtain ⟨ad, cap, hv⟩ := own_slice h.told
  subst hv
  have HBL := hide b2
  have HA2 : Hid (((w.alloc (.cells #[.int .i64 job, .int .i64 bdg, .slice none 0 0] 40)).alloc (.cells #[.string t] 9)).heap[w.heap.size]? = some (.cells #[.int .i64 job, .int .i64 bdg, .slice none 0 0] 40 (0, 0))) := hide (((below_alloc _ _).block _ (by simp)).trans (heap_alloc_new w _))
  have HSZ : Hid (((w.alloc (.cells #[.int .i64 job, .int .i64 bdg, .slice none 0 0] 40)).alloc (.cells #[.string t] 9)).heap.size = w.heap.size + 2) := hide (by simp)
  clear h hb hown b2
  go_enter Try.func13, Try.ntmps13
  go_wp2_with (at_builtin; refine wpList_append_two rfl _ _ 38 rfl 0 9 iS (.string ByteArray.empty) 1 16 Try.underlying38 hiS zS0 zS1 zS2 rfl (by decide) (.slice ad0 pcs.length cap0) pcs.length (tcs pcs) rfl HO2.out ⟨w.heap.size + 1, 0, none⟩ 1 1 [.string t] (by decide) rfl rfl (one_at (by simp) _ _) (by intro u hu; simp at hu; subst hu; rfl) (by unfold maxLen; omega) (by omega) (by omega) ?_; intro v' w3 hown hgrow htwo; have HO3 := hide hown; have HG3 := hide hgrow; have H23 := hide htwo; (obtain ⟨ad3, cap3, hv3⟩ := own_slice hown); subst hv3; (have HA3 : Hid (w3.heap[w.heap.size]? = some (.cells #[.int .i64 job, .int .i64 bdg, .slice none 0 0] 40 (0, 0))) := hide ((hgrow.block _ (by simp; omega) (fun e => by have := (HOL.out _ e.symm).1; omega)).trans HA2.out)); (obtain ⟨a0, a1, a2, az⟩ := four_of HA3.out); (have az2 := az 2); clear hown hgrow htwo az hlk hf2)
  have HS3 : Hid (Sb w3 b m A (.slice ad T.length cap) T job) := hide (HS2.out.keep fun k hk => HG3.out.block k (by have := HLT.out k hk; have := HSZ.out; omega) (fun e => by
    obtain ⟨_, e1, e2, e3⟩ := HOL.out k e.symm
    rcases hk with rfl | rfl | e4 | ⟨y, hy, hy0, e4⟩
    · exact e1 rfl
    · exact e2 rfl
    · exact e3 e4
    · exact HAP.out y hy hy0 k e.symm e4))
  have HM3 : Hid (Mv (Ft b m A (.slice ad T.length cap) 0) w w3) := hide ((Mv.of_below HBL.out).grown HG3.out (fun k e => .inl (.inr (.inr (.inr ⟨_, HX.out.1, HX0.out, e⟩)))))
  have hs3 : w.heap.size < w3.heap.size := lt_blk HA3.out
  have hset : ∀ k, k ≠ w.heap.size → (w3.setCell ⟨w.heap.size, 2, none⟩ (.slice ad3 (pcs.length + 1) cap3)).heap[k]? = w3.heap[k]? := fun k hk => by simp [World.setCell, Array.getElem?_modify, Ne.symm hk]
  have HA4 : Hid ((w3.setCell ⟨w.heap.size, 2, none⟩ (.slice ad3 (pcs.length + 1) cap3)).heap[w.heap.size]? = some (.cells #[.int .i64 job, .int .i64 bdg, .slice ad3 (pcs.length + 1) cap3] 40 (0, 0))) := hide (by
    have := HA3.out
    simp only [World.setCell, Array.getElem?_modify]
    rw [this]
    simp)
  have HS4 : Hid (Sb (w3.setCell ⟨w.heap.size, 2, none⟩ (.slice ad3 (pcs.length + 1) cap3)) b m A (.slice ad T.length cap) T job) := hide (HS3.out.keep fun k hk => hset k (by have := HLT.out k hk; omega))
  have HO4 : Hid ((w3.setCell ⟨w.heap.size, 2, none⟩ (.slice ad3 (pcs.length + 1) cap3)).ownsRow 0 9 1 (.slice ad3 (pcs.length + 1) cap3) (pcs.length + 1) (tcs (pcs ++ [t]))) := hide (by
    rw [tcs_snoc]
    refine own_keep HO3.out fun k e => hset k fun e1 => ?_
    obtain ⟨cs, h1⟩ := own_type HO3.out k e
    rw [e1, HA3.out] at h1
    injection h1 with h1
    injection h1 with _ h1
    exact absurd h1 (by decide))
  have HM4 : Hid (Mv (Ft b m A (.slice ad T.length cap) 0) w (w3.setCell ⟨w.heap.size, 2, none⟩ (.slice ad3 (pcs.length + 1) cap3))) := hide (HM3.out.grown (grown_set w3 w.heap.size 2 _) (fun k e => by cases e; exact .inr (Nat.le_refl _)))
  clear hset a0 a1 a2 az2
  generalize w3.setCell ⟨w.heap.size, 2, none⟩ (.slice ad3 (pcs.length + 1) cap3) = w5 at *
  obtain ⟨w6, hst, hL6, hg6⟩ := HS4.out.map.drew.store ⟨job, bdg, ad3, cap3, pcs ++ [t]⟩
  have HS6 : Hid (Sb w6 b m (put ⟨job, bdg, ad3, cap3, pcs ++ [t]⟩ A) (.slice ad T.length cap) T 0) := hide (HS4.out.store (x := ⟨job, bdg, ad3, cap3, pcs ++ [t]⟩) rfl ⟨HJ.out.1, HJ.out.2, HB.out.1, HB.out.2, by simp; omega⟩ (by
      dsimp only [Az.sl]
      rw [List.length_append]
      exact HO4.out) (fun y hy hne k e => by
      dsimp only [Az.sl] at e
      have e' : (Value.slice ad3 (pcs.length + 1) cap3).ownBlock = some k := by rw [← e]; simp [Value.ownBlock]
      rcases H23.out with e2 | ⟨e2, _⟩
      · exact HAP.out y hy hne k (e2.symm.trans e')
      · intro e3
        have h1 := HLT.out k (.inr (.inr (.inr ⟨y, hy, hne, e3⟩)))
        rw [e'] at e2
        injection e2 with e2
        have := HSZ.out
        omega) hL6 ⟨hg6.os, hg6.tape, hg6.output, hg6.size, hg6.block⟩)
  have HM6 : Hid (Mv (Ft b m A (.slice ad T.length cap) 0) w w6) := hide (HM4.out.grown (w' := w6) ⟨hg6.os, hg6.tape, hg6.output, hg6.size, hg6.block⟩ (fun k e => by cases e; exact .inl (.inr (.inl rfl))))
  have c5 := HS4.out.c0
  have c1 := HS6.out.c1
  obtain ⟨a0, a1, a2, az⟩ := four_of HA4.out
  have HS7 := hide (HS6.out.below (below_alloc w6 (.cells (Ev.cs ⟨job, bdg, idx, t⟩).toArray 69)))
  have HZ : Hid (∀ w8, (w6.alloc (.cells (Ev.cs ⟨job, bdg, idx, t⟩).toArray 69)).grownBy w8 (Value.slice ad T.length cap).ownBlock → w8.frozen? ⟨b, 1, none⟩ = false ∧ w8.cell? ⟨b, 1, none⟩ = some (Value.slice ad T.length cap)) := hide fun w4 hg => HS7.out.z4 hg 1
  have HT7 := hide HS7.out.told
  dsimp only [Az.val] at hst
  rw [List.length_append, List.length_singleton] at hst
  clear c0 hL6 hg6 az
  go_region
  go_wp2_with (at_builtin; refine wpList_append_two rfl _ _ 36 rfl 0 69 iE ev0 13 128 Try.underlying36 hiE zE0 zE1 zE2 rfl (by decide) (.slice ad T.length cap) T.length (ecs T) rfl HT7.out ⟨w6.heap.size, 0, none⟩ 1 1 (Ev.cs ⟨job, bdg, idx, t⟩) (by decide) rfl rfl (World.news_of_block (heap_alloc_new w6 _)) (Ev.one _) (by unfold maxLen; omega) (by omega) (by omega) ?_; intro v' w8 hown hgrow htwo; have HO8 := hide hown; have HG8 := hide hgrow; have H28 := hide htwo; (obtain ⟨z8, c8⟩ := HZ.out _ hgrow); (obtain ⟨ad8, cap8, hv8⟩ := own_slice hown); subst hv8; clear hown hgrow htwo)
  go_end0
  refine ⟨rfl, ⟨job, bdg, ad3, cap3, pcs ++ [t]⟩, _, rfl, rfl, rfl, HS7.out.tell HG8.out (T' := T ++ [⟨job, bdg, idx, t⟩]) (by rw [ecs_snoc, List.length_append]; exact HO8.out), ?_, ?_⟩
  · refine ((HM6.out.below (below_alloc w6 _)).grown HG8.out (fun k e => .inl (.inr (.inr (.inl e))))).grown (grown_set w8 b 1 _) (fun k e => .inl ?_)
    cases e
    exact .inl rfl
  · have hsz : w.heap.size ≤ w6.heap.size := HM6.out.size
    intro k hk
    rcases hk with e | e | e | ⟨x, hx, hx0, e⟩
    · exact .inl (.inl e)
    · exact .inl (.inr (.inl e))
    · rcases H28.out with e2 | ⟨e2, _⟩
      · exact .inl (.inr (.inr (.inl (e2.symm.trans e))))
      · rw [e] at e2
        injection e2 with e2
        rw [World.size_alloc] at e2
        exact .inr (by omega)
    · rcases mem_put.1 hx with rfl | ⟨hx1, _⟩
      · have e' : (Value.slice ad3 (pcs.length + 1) cap3).ownBlock = some k := by rw [← e]; simp [Az.sl, Value.ownBlock]
        rcases H23.out with e2 | ⟨e2, _⟩
        · exact .inl (.inr (.inr (.inr ⟨_, HX.out.1, HX0.out, e2.symm.trans e'⟩)))
        · rw [e'] at e2
          injection e2 with e2
          have := HSZ.out
          exact .inr (by omega)
      · exact .inl (.inr (.inr (.inr ⟨x, hx1, hx0, e⟩)))
end Go.Proofs.Ytfmanndadjdpbaa.K
end
