import Derived.Test.YtjfgmdiafhkbgaaAuB
namespace Go.Proofs.Ytjfgmdiafhkbgaa
open Go.RowKit Go.MapKept
set_option maxRecDepth 8000

/-- what is known of a history -/
structure Hs where
  jobs : List Jb
  top : Int
  ch : Int × Int → Option ByteArray
  pc : Int × Int → Option ByteArray
  rs : Int × Int × Int × Int → Option Int
  cn : Int × Int × Int → Option Int
  adm : Nat → Int × Int
  sh : Bool
  up : Int
def hs0 : Hs := ⟨[], 0, fun _ => none, fun _ => none, fun _ => none, fun _ => none, fun _ => (0, 0), false, 0⟩
structure Hs.ok (N : Nat) (h : Hs) : Prop where
  len : h.jobs.length ≤ 8
  lg : ∀ j ∈ h.jobs, j.lg.length ≤ N * 1048576
  rs : ∀ k n, h.rs k = some n → 1 ≤ n ∧ n ≤ N
  cn : ∀ k n, h.cn k = some n → 1 ≤ n ∧ n ≤ N
  up : 0 ≤ h.up ∧ h.up ≤ 8
/-- where it lies -/
structure Hi where
  jv : Value
  L : List (Jb × Value)
  mc : Nat
  mp : Nat
  mr : Nat
  mn : Nat
/-- its cells -/
def hc (s : Hi) (h : Hs) : Nat → Value
  | 0 => s.jv
  | 1 => .int .i64 h.top
  | 2 => .map (some s.mc)
  | 3 => .map (some s.mp)
  | 4 => .map (some s.mr)
  | 5 => .map (some s.mn)
  | 24 => .bool h.sh
  | 25 => .int .i64 h.up
  | o => if o % 2 = 0 then .int .i64 (h.adm ((o - 6) / 2)).1 else .int .i64 (h.adm ((o - 6) / 2)).2
theorem hc_a (s : Hi) (h : Hs) (i : Nat) (hi : i < 9) : hc s h (6 + i * 2) = .int .i64 (h.adm i).1 := by
  match i, hi with
  | 0, _ => rfl | 1, _ => rfl | 2, _ => rfl | 3, _ => rfl | 4, _ => rfl | 5, _ => rfl | 6, _ => rfl | 7, _ => rfl | 8, _ => rfl
theorem hc_b (s : Hi) (h : Hs) (i : Nat) (hi : i < 9) : hc s h (6 + i * 2 + 1) = .int .i64 (h.adm i).2 := by
  match i, hi with
  | 0, _ => rfl | 1, _ => rfl | 2, _ => rfl | 3, _ => rfl | 4, _ => rfl | 5, _ => rfl | 6, _ => rfl | 7, _ => rfl | 8, _ => rfl
abbrev TH : TypeId := 77
abbrev TJ : TypeId := 87
abbrev TS : TypeId := 9
/-- a history in memory -/
structure Hm (w : World) (B b : Nat) (h : Hs) (s : Hi) : Prop where
  blk : ∃ cs : Array Value, w.heap[b]? = some (.cells cs 77 (0, 0)) ∧ cs.size = 26 ∧ ∀ o, o < 26 → cs[o]? = some (hc s h o)
  lo : B ≤ b ∧ B ≤ s.mc ∧ B ≤ s.mp ∧ B ≤ s.mr ∧ B ≤ s.mn
  ne : s.mc ≠ s.mp ∧ s.mc ≠ s.mr ∧ s.mc ≠ s.mn ∧ s.mp ≠ s.mr ∧ s.mp ≠ s.mn ∧ s.mr ≠ s.mn
  ch : Mq KS w s.mc h.ch
  pc : Mq KS w s.mp h.pc
  rs : Mq KV w s.mr h.rs
  cn : Mq KL w s.mn h.cn
  l8 : h.jobs.length ≤ 8
  jobs : s.L.map Prod.fst = h.jobs
  row : w.ownsRow B 87 5 s.jv s.L.length (jcs s.L)
  logs : ∀ x ∈ s.L, w.ownsRow B 9 1 x.2 x.1.lg.length (tcs x.1.lg)
  apart : s.L.Pairwise fun x y => ∀ k, x.2.ownBlock = some k → y.2.ownBlock ≠ some k
theorem own_keep {w w' : World} {base n size : Nat} {e : TypeId} {v : Value} {xs : List Value} (h : w.ownsRow base e size v n xs) (hk : ∀ k, v.ownBlock = some k → w'.heap[k]? = w.heap[k]?) : w'.ownsRow base e size v n xs := by
  refine ⟨h.1, ?_⟩
  rcases h.2 with h1 | ⟨g, cap, cur, rfl, hb, hg, h2⟩
  · exact .inl h1
  · exact .inr ⟨g, cap, cur, rfl, hb, (hk g rfl).trans hg, h2⟩
theorem own_type {w : World} {base n size : Nat} {e : TypeId} {v : Value} {xs : List Value} (h : w.ownsRow base e size v n xs) (g : Nat) (hg : v.ownBlock = some g) : ∃ cs, w.heap[g]? = some (.cells cs e (0, 0)) := by
  rcases h.2 with ⟨h1, _⟩ | ⟨g', cap', cur, rfl, _, hg', _⟩
  · rw [h1] at hg; cases hg
  · cases hg
    exact ⟨_, hg'⟩
theorem own_lo {w : World} {base n size : Nat} {e : TypeId} {v : Value} {xs : List Value} (h : w.ownsRow base e size v n xs) (g : Nat) (hg : v.ownBlock = some g) : base ≤ g := by
  rcases h.2 with ⟨h1, _⟩ | ⟨g', cap', cur, rfl, hb, hg', _⟩
  · rw [h1] at hg; cases hg
  · cases hg
    exact hb
theorem own_apart {w : World} {base n size base' n' size' : Nat} {e e' : TypeId} {v v' : Value} {xs xs' : List Value} (h : w.ownsRow base e size v n xs) (h' : w.ownsRow base' e' size' v' n' xs') (hne : e ≠ e') (g : Nat) (hg : v.ownBlock = some g) : v'.ownBlock ≠ some g := fun hg' => by
  obtain ⟨c, h1⟩ := own_type h g hg
  obtain ⟨c', h2⟩ := own_type h' g hg'
  rw [h1] at h2
  injection h2 with h2
  injection h2 with _ h2
  exact hne h2
theorem own_slice {w : World} {B : Nat} {e : TypeId} {size n : Nat} {v : Value} {xs : List Value} (h : w.ownsRow B e size v n xs) : ∃ ad cap, v = .slice ad n cap := by
  rcases h.2 with ⟨h1, rfl⟩ | ⟨g, cap, cur, rfl, _⟩
  · exact ⟨_, _, h1⟩
  · exact ⟨_, _, rfl⟩
theorem own_base {W : World} {base base' : Nat} {e : TypeId} {size : Nat} {v : Value} {k : Nat} {xs : List Value} (h : W.ownsRow base e size v k xs) (hb : base' ≤ base) : W.ownsRow base' e size v k xs := by
  refine ⟨h.1, ?_⟩
  rcases h.2 with hn | ⟨g, cap, cur, hv, hbg, rest⟩
  · exact .inl hn
  · exact .inr ⟨g, cap, cur, hv, Nat.le_trans hb hbg, rest⟩
theorem grown_set (w : World) (b o : Nat) (v : Value) : w.grownBy (w.setCell ⟨b, o, none⟩ v) (some b) :=
  ⟨rfl, rfl, rfl, by simp [World.setCell], fun k _ hb => by
    have : b ≠ k := fun e => hb (by rw [e])
    simp [World.setCell, Array.getElem?_modify, this]⟩
theorem below_alloc (w : World) (o : Obj) : Below w.heap.size w (w.alloc o) := (Below.refl _ _).alloc (Nat.le_refl _) o
theorem below_drewN {B : Nat} {a w : World} (h : Below B a w) (n : Nat) : Below B a (w.drewN n) := ⟨h.os, h.tape, h.output, h.size, h.block⟩
theorem below_of {w W w' : World} (h : Below w.heap.size w W) (k : Below W.heap.size W w') : Below w.heap.size w w' := h.trans (k.mono h.size)
/-- a block that no history turns -/
def Out (w : World) (k : Nat) : Prop := ∃ cs t r, w.heap[k]? = some (.cells cs t r) ∧ t ≠ TH ∧ t ≠ TJ ∧ t ≠ TS
/-- what a call keeps that turns a history -/
structure Kt (B : Nat) (w w' : World) : Prop where
  os : w'.os = w.os
  tape : w'.tape = w.tape
  output : w'.output = w.output
  size : w.heap.size ≤ w'.heap.size
  block : ∀ k, k < w.heap.size → (k < B ∨ Out w k) → w'.heap[k]? = w.heap[k]?
theorem Out.lt {w : World} {k : Nat} (h : Out w k) : k < w.heap.size := by
  obtain ⟨cs, t, r, h1, _⟩ := h
  exact lt_of_block h1
theorem Kt.refl (B : Nat) (w : World) : Kt B w w := ⟨rfl, rfl, rfl, Nat.le_refl _, fun _ _ _ => rfl⟩
theorem Kt.out {B : Nat} {w w' : World} (h : Kt B w w') {k : Nat} (hk : Out w k) : Out w' k := by
  have hl := hk.lt
  have e := h.block k hl (.inr hk)
  obtain ⟨cs, t, r, h1, h2⟩ := hk
  exact ⟨cs, t, r, e.trans h1, h2⟩
theorem Kt.trans {B : Nat} {x y z : World} (h : Kt B x y) (k : Kt B y z) : Kt B x z :=
  ⟨k.os.trans h.os, k.tape.trans h.tape, k.output.trans h.output, Nat.le_trans h.size k.size, fun i hi hb =>
    (k.block i (Nat.lt_of_lt_of_le hi h.size) (hb.imp id (fun ho => h.out ho))).trans (h.block i hi hb)⟩
theorem Kt.of_below {B : Nat} {w w' : World} (h : Below w.heap.size w w') : Kt B w w' := ⟨h.os, h.tape, h.output, h.size, fun k hk _ => h.block k hk⟩
theorem Kt.below {B : Nat} {x w w' : World} (h : Kt B x w) (k : Below w.heap.size w w') : Kt B x w' := h.trans (Kt.of_below k)
theorem Kt.low {B : Nat} {w w' : World} (h : Kt B w w') (hB : B ≤ w.heap.size) : Below B w w' := ⟨h.os, h.tape, h.output, h.size, fun k hk => h.block k (Nat.lt_of_lt_of_le hk hB) (.inl hk)⟩
theorem Kt.of_grown {B : Nat} {w w' : World} {row : Option Nat} (h : w.grownBy w' row) (hr : ∀ k, row = some k → B ≤ k ∧ ¬ Out w k) : Kt B w w' :=
  ⟨h.os, h.tape, h.output, h.size, fun k hk hb => h.block k hk fun e => by
    obtain ⟨h1, h2⟩ := hr k e.symm
    exact hb.elim (fun h3 => by omega) h2⟩
theorem not_out {w : World} {k : Nat} {cs : Array Value} {t : TypeId} {r : Nat × Nat} (h : w.heap[k]? = some (.cells cs t r)) (ht : t = TH ∨ t = TJ ∨ t = TS) : ¬ Out w k := fun ⟨cs', t', r', h1, h2, h3, h4⟩ => by
  rw [h] at h1
  injection h1 with h1
  injection h1 with _ h1
  subst h1
  rcases ht with h | h | h
  · exact h2 h
  · exact h3 h
  · exact h4 h
theorem not_out_map {w : World} {k : Nat} {es : Array MapEntry} {c : Nat} (h : w.heap[k]? = some (.map es c)) : ¬ Out w k := fun ⟨cs', t', r', h1, _⟩ => by rw [h] at h1; cases h1
theorem Mq.not_out {α β : Type} {K : Mk α β} {w : World} {m : Nat} {f : α → Option β} (h : Mq K w m f) : ¬ Out w m := by
  obtain ⟨es, c, h1⟩ := h.block
  exact not_out_map h1
theorem Mq.ne_cells {α β : Type} {K : Mk α β} {w : World} {m k : Nat} {f : α → Option β} (h : Mq K w m f) {cs : Array Value} {t : TypeId} {r : Nat × Nat} (hk : w.heap[k]? = some (.cells cs t r)) : m ≠ k := fun e => by
  obtain ⟨es, c, h1⟩ := h.block
  rw [e, hk] at h1
  cases h1
section
variable {w w' : World} {B b : Nat} {h : Hs} {s : Hi}
theorem Hm.cell (H : Hm w B b h s) (o : Nat) (ho : o < 26) : w.cell? ⟨b, o, none⟩ = some (hc s h o) := by
  obtain ⟨cs, h1, h2, h3⟩ := H.blk
  have := h3 o ho
  simp [World.cell?, h1, this]
theorem Hm.z (H : Hm w B b h s) (o : Nat) : w.frozen? ⟨b, o, none⟩ = false := by
  obtain ⟨cs, h1, _⟩ := H.blk
  simp [World.frozen?, h1]
theorem Hm.lt (H : Hm w B b h s) : b < w.heap.size := by
  obtain ⟨cs, h1, _⟩ := H.blk
  exact lt_of_block h1
theorem Hm.below (H : Hm w B b h s) (hb : Below w.heap.size w w') : Hm w' B b h s := by
  obtain ⟨cs, h1, h2⟩ := H.blk
  refine ⟨⟨cs, (hb.block _ (lt_of_block h1)).trans h1, h2⟩, H.lo, H.ne, H.ch.keep (hb.block _ H.ch.lt), H.pc.keep (hb.block _ H.pc.lt), H.rs.keep (hb.block _ H.rs.lt), H.cn.keep (hb.block _ H.cn.lt), H.l8, H.jobs,
    own_keep H.row fun k e => hb.block k (H.row.lt k e).2, fun x hx => own_keep (H.logs x hx) fun k e => hb.block k ((H.logs x hx).lt k e).2, H.apart⟩
theorem Hm.len (H : Hm w B b h s) : s.L.length = h.jobs.length := by rw [← H.jobs, List.length_map]
/-- a cell of its own block is turned -/
theorem Hm.setb (H : Hm w B b h s) (o : Nat) (ho : o < 26) (v : Value) (h' : Hs) (e : h'.jobs = h.jobs ∧ h'.ch = h.ch ∧ h'.pc = h.pc ∧ h'.rs = h.rs ∧ h'.cn = h.cn) (hv : ∀ i, i < 26 → hc s h' i = if i = o then v else hc s h i) :
    Hm (w.setCell ⟨b, o, none⟩ v) B b h' s ∧ Kt B w (w.setCell ⟨b, o, none⟩ v) := by
  obtain ⟨cs, h1, h2, h3⟩ := H.blk
  have hset : ∀ k, k ≠ b → (w.setCell ⟨b, o, none⟩ v).heap[k]? = w.heap[k]? := fun k hk => by simp [World.setCell, Array.getElem?_modify, Ne.symm hk]
  have hty : ∀ {e : TypeId} {size n base : Nat} {u : Value} {xs : List Value}, w.ownsRow base e size u n xs → e ≠ TH → (w.setCell ⟨b, o, none⟩ v).ownsRow base e size u n xs := fun ho hne => own_keep ho fun k e => hset k fun e1 => by
    obtain ⟨c, hc⟩ := own_type ho k e
    rw [e1, h1] at hc
    injection hc with hc
    injection hc with _ hc
    exact hne hc.symm
  refine ⟨⟨⟨cs.setIfInBounds o v, heap_setCell_same w b o cs _ v h1, by simpa using h2, fun i hi => ?_⟩, H.lo, H.ne, ?_, ?_, ?_, ?_, by rw [e.1]; exact H.l8, ?_, hty H.row (by decide), fun x hx => hty (H.logs x hx) (by decide), H.apart⟩,
    Kt.of_grown (grown_set w b o v) fun k e => by cases e; exact ⟨H.lo.1, not_out h1 (.inl rfl)⟩⟩
  · rw [hv i hi, Array.getElem?_setIfInBounds]
    by_cases hio : o = i
    · rw [if_pos hio, if_pos hio.symm, if_pos (by omega)]
    · rw [if_neg hio, if_neg (Ne.symm hio), h3 i hi]
  · rw [e.2.1]; exact H.ch.keep (hset _ (H.ch.ne_cells h1))
  · rw [e.2.2.1]; exact H.pc.keep (hset _ (H.pc.ne_cells h1))
  · rw [e.2.2.2.1]; exact H.rs.keep (hset _ (H.rs.ne_cells h1))
  · rw [e.2.2.2.2]; exact H.cn.keep (hset _ (H.cn.ne_cells h1))
  · rw [e.1]; exact H.jobs
/-- of what lies in memory one block is turned, none of its maps, not its own -/
theorem Hm.turn (H : Hm w B b h s) {row : Option Nat} (hg : w.grownBy w' row) (hr : ∀ k, row = some k → ∃ cs t r, w.heap[k]? = some (.cells cs t r) ∧ t ≠ TH) {L : List (Jb × Value)} {h' : Hs} {s' : Hi} (es : s' = { s with L := L }) (eh : h' = { h with jobs := L.map Prod.fst }) (hl8 : L.length ≤ 8) (hrow : w'.ownsRow B 87 5 s.jv L.length (jcs L))
    (hlogs : ∀ x ∈ L, w'.ownsRow B 9 1 x.2 x.1.lg.length (tcs x.1.lg)) (hap : L.Pairwise fun x y => ∀ k, x.2.ownBlock = some k → y.2.ownBlock ≠ some k) : Hm w' B b h' s' := by
  subst es; subst eh
  obtain ⟨cs, h1, h2, h3⟩ := H.blk
  have hm : ∀ {α β : Type} {K : Mk α β} {m : Nat} {f : α → Option β}, Mq K w m f → Mq K w' m f := fun hq => hq.keep (hg.block _ hq.lt fun e => by
    obtain ⟨cs, t, r, h4, _⟩ := hr _ e.symm
    exact hq.ne_cells h4 rfl)
  refine ⟨⟨cs, (hg.block _ (lt_of_block h1) fun e => ?_).trans h1, h2, h3⟩, H.lo, H.ne, hm H.ch, hm H.pc, hm H.rs, hm H.cn, by simpa using hl8, rfl, hrow, hlogs, hap⟩
  obtain ⟨cs', t, r, h4, h5⟩ := hr _ e.symm
  rw [h1] at h4
  injection h4 with h4
  injection h4 with _ h4
  exact h5 h4.symm
end
end Go.Proofs.Ytjfgmdiafhkbgaa
