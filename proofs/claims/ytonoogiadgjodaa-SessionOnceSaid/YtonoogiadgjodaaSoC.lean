import Derived.Test.YtonoogiadgjodaaSoB
import Derived.Test.YtonoogiadgjodaaSeK
namespace Go.Proofs.Ytonoogiadgjodaa
open Go.RowKit

def Sd.cs (x : Sd) : List Value := [.int .i64 x.m.k, .int .i64 x.m.se, .int .i64 x.m.nu, .int .i64 x.m.jo, .int .i64 x.m.ba, .int .i64 x.m.ix, .int .i64 x.m.co, .int .i64 x.m.rc, .int .u64 (x.m.rb : Int), .string x.m.tx, .string x.m.pr, .bool x.tb, .int .i64 x.li, .int .i64 x.ak, .int .i64 x.an]
def scs : List Sd → List Value
  | [] => []
  | x :: l => x.cs ++ scs l
theorem scs_len (l : List Sd) : (scs l).length = l.length * 15 := by
  induction l with
  | nil => rfl
  | cons d l ih => simp only [scs, List.length_append, ih, List.length_cons, Nat.add_mul]; simp [Sd.cs]; omega
theorem scs_append (l m : List Sd) : scs (l ++ m) = scs l ++ scs m := by
  induction l with
  | nil => rfl
  | cons d l ih => simp only [List.cons_append, scs, ih, List.append_assoc]
theorem scs_get (l : List Sd) (i k : Nat) (hi : i < l.length) (hk : k < 15) : (scs l)[i * 15 + k]? = (l[i]).cs[k]? := by
  induction l generalizing i with
  | nil => cases hi
  | cons d l ih =>
    cases i with
    | zero => simp only [scs]; rw [Nat.zero_mul, Nat.zero_add, List.getElem?_append_left (by show k < 15; exact hk)]; rfl
    | succ i =>
      simp only [scs]
      rw [List.getElem?_append_right (by show 15 ≤ _; omega), show (i + 1) * 15 + k - (Sd.cs d).length = i * 15 + k by show _ - 15 = _; omega]
      exact ih i (by simpa using hi)
theorem sd_one (x : Sd) : ∀ u ∈ x.cs, u.oneCell' = true := by
  intro u hu
  simp only [Sd.cs, List.mem_cons, List.not_mem_nil, or_false] at hu
  rcases hu with rfl | rfl | rfl | rfl | rfl | rfl | rfl | rfl | rfl | rfl | rfl | rfl | rfl | rfl | rfl <;> rfl
theorem scs_one (l : List Sd) : ∀ u ∈ scs l, u.oneCell' = true := by
  induction l with
  | nil => intro u hu; simp [scs] at hu
  | cons d l ih =>
    intro u hu
    simp only [scs, List.mem_append] at hu
    rcases hu with hu | hu
    · exact sd_one d u hu
    · exact ih u hu
def De.cs (d : De) : List Value := [.int .i64 d.se, .int .i64 d.nu, .int .i64 d.ak]
def ecs : List De → List Value
  | [] => []
  | x :: l => x.cs ++ ecs l
theorem ecs_len (l : List De) : (ecs l).length = l.length * 3 := by
  induction l with
  | nil => rfl
  | cons d l ih => simp only [ecs, List.length_append, ih, List.length_cons, Nat.add_mul]; simp [De.cs]; omega
theorem ecs_append (l m : List De) : ecs (l ++ m) = ecs l ++ ecs m := by
  induction l with
  | nil => rfl
  | cons d l ih => simp only [List.cons_append, ecs, ih, List.append_assoc]
theorem ecs_get (l : List De) (i k : Nat) (hi : i < l.length) (hk : k < 3) : (ecs l)[i * 3 + k]? = (l[i]).cs[k]? := by
  induction l generalizing i with
  | nil => cases hi
  | cons d l ih =>
    cases i with
    | zero => simp only [ecs]; rw [Nat.zero_mul, Nat.zero_add, List.getElem?_append_left (by show k < 3; exact hk)]; rfl
    | succ i =>
      simp only [ecs]
      rw [List.getElem?_append_right (by show 3 ≤ _; omega), show (i + 1) * 3 + k - (De.cs d).length = i * 3 + k by show _ - 3 = _; omega]
      exact ih i (by simpa using hi)
/-- where all lies -/
structure Ja where
  a : Nat
  bc : Nat
  tb : Nat
  tg : Nat
  tc : Nat
  vw : Value
  vd : Value
/-- the blocks that calls turn -/
def Ja.foot (A : Ja) (k : Nat) : Prop := k = A.a ∨ k = A.bc ∨ k = A.tg ∨ A.vw.ownBlock = some k ∨ A.vd.ownBlock = some k
def jC (A : Ja) (j : Jt) : Array Value := #[.pointer (some ⟨A.bc, 0, none⟩), .pointer (some ⟨A.tb, 0, none⟩), .int .i64 j.life, .int .i64 j.used, .int .i64 j.asked, A.vw, A.vd, .bool false]
/-- all of it in memory -/
structure Jm (B : Nat) (w : World) (A : Ja) (j : Jt) : Prop where
  hj : w.heap[A.a]? = some (.cells (jC A j) 67 (0, 0))
  cb : Cb w A.bc j.c
  tm : Tm 92 B w A.tb A.tg A.tc [j.D]
  rw_ : w.ownsRow B 103 15 A.vw j.way.length (scs j.way)
  rd : w.ownsRow B 115 3 A.vd j.deeds.length (ecs j.deeds)
  la : B ≤ A.a
  lb : B ≤ A.bc
/-- from one state to the next -/
structure Jv (A A' : Ja) (w w' : World) : Prop where
  os : w'.os = w.os
  tape : w'.tape = w.tape
  output : w'.output = w.output
  size : w.heap.size ≤ w'.heap.size
  block : ∀ k, k < w.heap.size → ¬ A.foot k → w'.heap[k]? = w.heap[k]?
  grow : ∀ k, A'.foot k → A.foot k ∨ w.heap.size ≤ k
theorem Jv.refl (A : Ja) (w : World) : Jv A A w w := ⟨rfl, rfl, rfl, Nat.le_refl _, fun _ _ _ => rfl, fun _ h => .inl h⟩
theorem Jv.of_below {A : Ja} {w w' : World} (h : Below w.heap.size w w') : Jv A A w w' := ⟨h.os, h.tape, h.output, h.size, fun k hk _ => h.block k hk, fun _ h => .inl h⟩
theorem Jv.trans {A A' A'' : Ja} {u v w : World} (h : Jv A A' u v) (k : Jv A' A'' v w) : Jv A A'' u w :=
  ⟨k.os.trans h.os, k.tape.trans h.tape, k.output.trans h.output, Nat.le_trans h.size k.size, fun i hi hn => (k.block i (Nat.lt_of_lt_of_le hi h.size) fun hf => (h.grow i hf).elim hn (by omega)).trans (h.block i hi hn), fun i hi => by
    rcases k.grow i hi with h1 | h1
    · exact h.grow i h1
    · exact .inr (Nat.le_trans h.size h1)⟩
section
variable {B : Nat} {w w' : World} {A : Ja} {j : Jt}
theorem Jm.low (h : Jm B w A j) {k : Nat} (hk : A.foot k) : B ≤ k := by
  rcases hk with rfl | rfl | rfl | hk | hk
  · exact h.la
  · exact h.lb
  · exact h.tm.gB
  · exact (h.rw_.lt k hk).1
  · exact (h.rd.lt k hk).1
theorem Jv.below {A' : Ja} (h : Jv A A' w w') (hm : Jm B w A j) (hB : B ≤ w.heap.size) : Below B w w' := ⟨h.os, h.tape, h.output, h.size, fun k hk => h.block k (by omega) fun hf => by have := hm.low hf; omega⟩
theorem Jm.below (h : Jm B w A j) (hb : Below w.heap.size w w') : Jm B w' A j := ⟨(hb.block _ (lt_of_block h.hj)).trans h.hj, h.cb.below hb, h.tm.below hb, own_below h.rw_ hb, own_below h.rd hb, h.la, h.lb⟩
theorem Jm.lt (h : Jm B w A j) : A.a < w.heap.size := lt_of_block h.hj
theorem Jm.cells (h : Jm B w A j) : w.cell? ⟨A.a, 0, none⟩ = some (.pointer (some ⟨A.bc, 0, none⟩)) ∧ w.cell? ⟨A.a, 1, none⟩ = some (.pointer (some ⟨A.tb, 0, none⟩)) ∧ w.cell? ⟨A.a, 2, none⟩ = some (.int .i64 j.life) ∧ w.cell? ⟨A.a, 3, none⟩ = some (.int .i64 j.used) ∧ w.cell? ⟨A.a, 4, none⟩ = some (.int .i64 j.asked) ∧ w.cell? ⟨A.a, 5, none⟩ = some A.vw ∧ w.cell? ⟨A.a, 6, none⟩ = some A.vd ∧ w.cell? ⟨A.a, 7, none⟩ = some (.bool false) := by
  have := h.hj
  simp [World.cell?, this, jC]
theorem Jm.z (h : Jm B w A j) (k : Nat) : w.frozen? ⟨A.a, k, none⟩ = false := by have := h.hj; simp [World.frozen?, this]
/-- a block that is no part of it -/
theorem Jm.other (h : Jm B w A j) {k : Nat} {cs : Array Value} {t : TypeId} (hk : w.heap[k]? = some (.cells cs t (0, 0))) (h1 : t ≠ 67) (h2 : t ≠ 77) (h3 : t ≠ 96) (h4 : t ≠ 103) (h5 : t ≠ 115) : ¬ A.foot k := by
  rintro (rfl | rfl | rfl | hf | hf)
  · exact blk_ne hk h.hj h1 rfl
  · exact blk_ne hk h.cb h2 rfl
  · obtain ⟨c, hc⟩ := own_blk h.tm.row (k := A.tg) rfl; exact blk_ne hk hc h3 rfl
  · obtain ⟨c, hc⟩ := own_blk h.rw_ hf; exact blk_ne hk hc h4 rfl
  · obtain ⟨c, hc⟩ := own_blk h.rd hf; exact blk_ne hk hc h5 rfl
theorem Try.infoSd : (Try.prog.info? 103).map (fun i => (i.zero, i.size, i.bytes)) = some (some (.agg #[.int .i64 0, .int .i64 0, .int .i64 0, .int .i64 0, .int .i64 0, .int .i64 0, .int .i64 0, .int .i64 0, .int .u64 0, .string ByteArray.empty, .string ByteArray.empty, .bool false, .int .i64 0, .int .i64 0, .int .i64 0]), 15, 136) := by kernel_rfl
theorem Try.infoDe : (Try.prog.info? 115).map (fun i => (i.zero, i.size, i.bytes)) = some (some (.agg #[.int .i64 0, .int .i64 0, .int .i64 0]), 3, 24) := by kernel_rfl
/-- a said's box -/
def Sx (w : World) (X : Nat) (x : Sd) : Prop := w.heap[X]? = some (.cells #[.int .i64 x.m.k, .int .i64 x.m.se, .int .i64 x.m.nu, .int .i64 x.m.jo, .int .i64 x.m.ba, .int .i64 x.m.ix, .int .i64 x.m.co, .int .i64 x.m.rc, .int .u64 (x.m.rb : Int), .string x.m.tx, .string x.m.pr, .bool x.tb, .int .i64 x.li, .int .i64 x.ak, .int .i64 x.an] 103 (0, 0))
theorem Sx.lt {X : Nat} {x : Sd} (h : Sx w X x) : X < w.heap.size := lt_of_block h
theorem Sx.below {X : Nat} {x : Sd} (h : Sx w X x) (hb : Below w.heap.size w w') : Sx w' X x := (hb.block _ h.lt).trans h
theorem Sx.cells {X : Nat} {x : Sd} (h : Sx w X x) : w.cell? ⟨X, 0, none⟩ = some (.int .i64 x.m.k) ∧ w.cell? ⟨X, 1, none⟩ = some (.int .i64 x.m.se) ∧ w.cell? ⟨X, 2, none⟩ = some (.int .i64 x.m.nu) ∧ w.cell? ⟨X, 3, none⟩ = some (.int .i64 x.m.jo) ∧ w.cell? ⟨X, 4, none⟩ = some (.int .i64 x.m.ba) ∧ w.cell? ⟨X, 5, none⟩ = some (.int .i64 x.m.ix) ∧ w.cell? ⟨X, 6, none⟩ = some (.int .i64 x.m.co) ∧ w.cell? ⟨X, 7, none⟩ = some (.int .i64 x.m.rc) ∧ w.cell? ⟨X, 8, none⟩ = some (.int .u64 (x.m.rb : Int)) ∧ w.cell? ⟨X, 9, none⟩ = some (.string x.m.tx) ∧ w.cell? ⟨X, 10, none⟩ = some (.string x.m.pr) ∧ w.cell? ⟨X, 11, none⟩ = some (.bool x.tb) ∧ w.cell? ⟨X, 12, none⟩ = some (.int .i64 x.li) ∧ w.cell? ⟨X, 13, none⟩ = some (.int .i64 x.ak) ∧ w.cell? ⟨X, 14, none⟩ = some (.int .i64 x.an) := by
  unfold Sx at h
  simp [World.cell?, h]
/-- the way has grown -/
theorem Jm.grown {vw' : Value} {W : List Sd} {o : Obj} (h : Jm B w A j) (ho : w'.ownsRow B 103 15 vw' W.length (scs W)) (hg : (w.alloc o).grownBy w' A.vw.ownBlock) (hat : ∀ k, vw'.ownBlock = some k → A.vw.ownBlock = some k ∨ w.heap.size ≤ k) : Jm B (w'.setCell ⟨A.a, 5, none⟩ vw') { A with vw := vw' } { j with way := W } ∧ Jv A { A with vw := vw' } w (w'.setCell ⟨A.a, 5, none⟩ vw') := by
  have keep : ∀ k, k < w.heap.size → A.vw.ownBlock ≠ some k → w'.heap[k]? = w.heap[k]? := fun k hk hn => (hg.block k (by rw [World.size_alloc]; omega) (Ne.symm hn)).trans (Below.heap_alloc w o k hk)
  have ne : ∀ {k cs t}, w.heap[k]? = some (Obj.cells cs t (0, 0)) → 103 ≠ t → w'.heap[k]? = w.heap[k]? := fun {k cs t} e1 ht => keep k (lt_of_block e1) fun e2 => by
    obtain ⟨ds, hds⟩ := own_blk h.rw_ e2; exact blk_ne hds e1 ht rfl
  have hja := (ne h.hj (by decide)).trans h.hj
  have set : ∀ k, k ≠ A.a → (w'.setCell ⟨A.a, 5, none⟩ vw').heap[k]? = w'.heap[k]? := fun k hk => Below.heap_setCell _ _ _ k hk
  obtain ⟨cg, hcg⟩ := own_blk h.tm.row (k := A.tg) rfl
  refine ⟨⟨heap_set_self w' A.a 5 vw' _ _ _ hja, ?_, ?_, ?_, ?_, h.la, h.lb⟩, ⟨hg.os, hg.tape, hg.output, by rw [setCell_size]; have := hg.size; rw [World.size_alloc] at this; omega, fun k hk hn => ?_, fun k hk => ?_⟩⟩
  · exact (set _ (blk_ne h.cb h.hj (by decide))).trans ((ne h.cb (by decide)).trans h.cb)
  · exact h.tm.keep ((set _ (blk_ne h.tm.hb h.hj (by decide))).trans (ne h.tm.hb (by decide))) ((set _ (blk_ne hcg h.hj (by decide))).trans (ne hcg (by decide)))
  · refine own_keep ho fun k hk => set k fun e => ?_
    obtain ⟨cs, hcs⟩ := own_blk ho hk
    exact blk_ne hcs hja (by decide) e
  · refine own_keep h.rd fun k hk => ?_
    obtain ⟨cs, hcs⟩ := own_blk h.rd hk
    exact (set k (blk_ne hcs h.hj (by decide))).trans (ne hcs (by decide))
  · rw [set k fun e => hn (.inl e)]
    exact keep k hk fun e => hn (.inr (.inr (.inr (.inl e))))
  · rcases hk with hk | hk | hk | hk | hk
    · exact .inl (.inl hk)
    · exact .inl (.inr (.inl hk))
    · exact .inl (.inr (.inr (.inl hk)))
    · exact (hat k hk).imp (fun e => .inr (.inr (.inr (.inl e)))) id
    · exact .inl (.inr (.inr (.inr (.inr hk))))

/-- what a call leaves: all is as it should be, its place too -/
def JPost (B : Nat) (w : World) (A : Ja) (j' : Jt) (w' : World) : Prop := ∃ A', A'.a = A.a ∧ Jm B w' A' j' ∧ Jv A A' w w'
set_option maxHeartbeats 4000000 in
set_option maxRecDepth 8000 in
theorem say_any (h : Jm B w A j) (hB : B ≤ w.heap.size) (hl : j.way.length ≤ 4194304) (x : Sd) : Calls Try.prog 49 #[.pointer (some ⟨A.a, 0, none⟩), .agg #[.int .i64 x.m.k, .int .i64 x.m.se, .int .i64 x.m.nu, .int .i64 x.m.jo, .int .i64 x.m.ba, .int .i64 x.m.ix, .int .i64 x.m.co, .int .i64 x.m.rc, .int .u64 (x.m.rb : Int), .string x.m.tx, .string x.m.pr, .bool x.tb, .int .i64 x.li, .int .i64 x.ak, .int .i64 x.an]] w fun e w' => e = .returned (.tuple #[]) ∧ JPost B w A (j.say x) w' := by
  obtain ⟨i0, hi0, hz0, hz1, hz2⟩ := info_parts Try.infoSd
  have HX : Hid (Sx (w.alloc (.cells #[.int .i64 x.m.k, .int .i64 x.m.se, .int .i64 x.m.nu, .int .i64 x.m.jo, .int .i64 x.m.ba, .int .i64 x.m.ix, .int .i64 x.m.co, .int .i64 x.m.rc, .int .u64 (x.m.rb : Int), .string x.m.tx, .string x.m.pr, .bool x.tb, .int .i64 x.li, .int .i64 x.ak, .int .i64 x.an] 103)) w.heap.size x) := hide (heap_alloc_new w _)
  have HM := hide (h.below (below_alloc w (.cells #[.int .i64 x.m.k, .int .i64 x.m.se, .int .i64 x.m.nu, .int .i64 x.m.jo, .int .i64 x.m.ba, .int .i64 x.m.ix, .int .i64 x.m.co, .int .i64 x.m.rc, .int .u64 (x.m.rb : Int), .string x.m.tx, .string x.m.pr, .bool x.tb, .int .i64 x.li, .int .i64 x.ak, .int .i64 x.an] 103)))
  have HJ : Hid (Jv A A w (w.alloc (.cells #[.int .i64 x.m.k, .int .i64 x.m.se, .int .i64 x.m.nu, .int .i64 x.m.jo, .int .i64 x.m.ba, .int .i64 x.m.ix, .int .i64 x.m.co, .int .i64 x.m.rc, .int .u64 (x.m.rb : Int), .string x.m.tx, .string x.m.pr, .bool x.tb, .int .i64 x.li, .int .i64 x.ak, .int .i64 x.an] 103))) := hide (Jv.of_below (below_alloc w _))
  have HXA : Hid (w.heap.size ≠ A.a) := hide (by have := h.lt; omega)
  have HXN : Hid (A.vw.ownBlock ≠ some w.heap.size) := hide fun e => by have := (h.rw_.lt _ e).2; omega
  have HWL := hide hl
  have HBS : Hid (B ≤ (w.alloc (.cells #[.int .i64 x.m.k, .int .i64 x.m.se, .int .i64 x.m.nu, .int .i64 x.m.jo, .int .i64 x.m.ba, .int .i64 x.m.ix, .int .i64 x.m.co, .int .i64 x.m.rc, .int .u64 (x.m.rb : Int), .string x.m.tx, .string x.m.pr, .bool x.tb, .int .i64 x.li, .int .i64 x.ak, .int .i64 x.an] 103)).heap.size) := hide (by rw [World.size_alloc]; omega)
  clear h hl hB
  go_enter Try.func49, Try.ntmps49
  go_wp2_with fail
  obtain ⟨X, hX⟩ : ∃ X, w.heap.size = X := ⟨_, rfl⟩
  rw [hX] at HX HXA HXN
  try rw [hX]
  clear hX
  generalize w.alloc (.cells #[.int .i64 x.m.k, .int .i64 x.m.se, .int .i64 x.m.nu, .int .i64 x.m.jo, .int .i64 x.m.ba, .int .i64 x.m.ix, .int .i64 x.m.co, .int .i64 x.m.rc, .int .u64 (x.m.rb : Int), .string x.m.tx, .string x.m.pr, .bool x.tb, .int .i64 x.li, .int .i64 x.ak, .int .i64 x.an] 103) = W at *
  have HM : Hid (Jm B W.drew A j) := hide (HM.out.below ⟨rfl, rfl, rfl, Nat.le_refl _, fun _ _ => rfl⟩)
  have HJ : Hid (Jv A A w W.drew) := hide ⟨HJ.out.os, HJ.out.tape, HJ.out.output, HJ.out.size, HJ.out.block, HJ.out.grow⟩
  have HX : Hid (Sx W.drew X x) := HX
  have HNEW : Hid ((W.drew.alloc (.cells #[.int .i64 x.m.k, .int .i64 x.m.se, .int .i64 x.m.nu, .int .i64 x.m.jo, .int .i64 x.m.ba, .int .i64 x.m.ix, .int .i64 x.m.co, .int .i64 x.m.rc, .int .u64 (x.m.rb : Int), .string x.m.tx, .string x.m.pr, .bool x.tb, .int .i64 x.li, .int .i64 x.ak, .int .i64 x.an] 103)).heap[W.heap.size]? = some (.cells #[.int .i64 x.m.k, .int .i64 x.m.se, .int .i64 x.m.nu, .int .i64 x.m.jo, .int .i64 x.m.ba, .int .i64 x.m.ix, .int .i64 x.m.co, .int .i64 x.m.rc, .int .u64 (x.m.rb : Int), .string x.m.tx, .string x.m.pr, .bool x.tb, .int .i64 x.li, .int .i64 x.ak, .int .i64 x.an] 103 (0, 0))) := hide (heap_alloc_new W.drew _)
  have HCe : Hid (∀ V, Sx V X x → (V.cell? ⟨X, 0, none⟩ = some (.int .i64 x.m.k) ∧ V.cell? ⟨X, 1, none⟩ = some (.int .i64 x.m.se) ∧ V.cell? ⟨X, 2, none⟩ = some (.int .i64 x.m.nu) ∧ V.cell? ⟨X, 3, none⟩ = some (.int .i64 x.m.jo) ∧ V.cell? ⟨X, 4, none⟩ = some (.int .i64 x.m.ba) ∧ V.cell? ⟨X, 5, none⟩ = some (.int .i64 x.m.ix) ∧ V.cell? ⟨X, 6, none⟩ = some (.int .i64 x.m.co) ∧ V.cell? ⟨X, 7, none⟩ = some (.int .i64 x.m.rc) ∧ V.cell? ⟨X, 8, none⟩ = some (.int .u64 (x.m.rb : Int)) ∧ V.cell? ⟨X, 9, none⟩ = some (.string x.m.tx) ∧ V.cell? ⟨X, 10, none⟩ = some (.string x.m.pr) ∧ V.cell? ⟨X, 11, none⟩ = some (.bool x.tb) ∧ V.cell? ⟨X, 12, none⟩ = some (.int .i64 x.li) ∧ V.cell? ⟨X, 13, none⟩ = some (.int .i64 x.ak) ∧ V.cell? ⟨X, 14, none⟩ = some (.int .i64 x.an))) := hide fun V hV => hV.cells
  obtain ⟨a0, a1, a2, a3, a4, a5, a6, a7⟩ := HM.out.cells
  have hal := HM.out.lt
  have hb : (W.alloc (.cells #[.int .i64 x.m.k, .int .i64 x.m.se, .int .i64 x.m.nu, .int .i64 x.m.jo, .int .i64 x.m.ba, .int .i64 x.m.ix, .int .i64 x.m.co, .int .i64 x.m.rc, .int .u64 (x.m.rb : Int), .string x.m.tx, .string x.m.pr, .bool x.tb, .int .i64 x.li, .int .i64 x.ak, .int .i64 x.an] 103)).drew.heap[A.a]? = some (.cells (jC A j) 67 (0, 0)) := (Below.heap_alloc W (.cells #[.int .i64 x.m.k, .int .i64 x.m.se, .int .i64 x.m.nu, .int .i64 x.m.jo, .int .i64 x.m.ba, .int .i64 x.m.ix, .int .i64 x.m.co, .int .i64 x.m.rc, .int .u64 (x.m.rb : Int), .string x.m.tx, .string x.m.pr, .bool x.tb, .int .i64 x.li, .int .i64 x.ak, .int .i64 x.an] 103) A.a HM.out.lt).trans HM.out.hj
  have b5 : (W.alloc (.cells #[.int .i64 x.m.k, .int .i64 x.m.se, .int .i64 x.m.nu, .int .i64 x.m.jo, .int .i64 x.m.ba, .int .i64 x.m.ix, .int .i64 x.m.co, .int .i64 x.m.rc, .int .u64 (x.m.rb : Int), .string x.m.tx, .string x.m.pr, .bool x.tb, .int .i64 x.li, .int .i64 x.ak, .int .i64 x.an] 103)).drew.cell? ⟨A.a, 5, none⟩ = some A.vw := by unfold World.cell?; rw [hb]; rfl
  clear hb
  refine wp_region_held_drew (S := fun w' => Sx w' X x) (by kernel_rfl) (HX.out) (fun hHeld => ?_)
  refine wpAnyH_take (i := 0) (v := .pointer (some ⟨A.a, 0, none⟩)) rfl (by kernel_rfl) (by kernel_rfl) (by kernel_rfl) (fun _ _ _ h => h) (Or.inl ⟨by kernel_rfl, fun w1 hSw => by clear hHeld; obtain ⟨k0, k1, k2, k3, k4, k5, k6, k7, k8, k9, k10, k11, k12, k13, k14⟩ := HCe.out _ hSw; go_simp⟩) hHeld ?_
  try simp only [Act.put]
  try simp only [List.getElem_toArray]
  try simp only [List.getElem_cons_succ]
  try simp only [List.getElem_cons_zero]
  try simp only [List.setIfInBounds_toArray]
  try simp only [List.set_cons_succ, List.set_cons_zero]
  refine wpAnyH_take (i := 1) (v := .pointer (some ⟨A.a, 0, none⟩)) rfl (by kernel_rfl) (by kernel_rfl) (by kernel_rfl) (fun _ _ _ h => h) (Or.inl ⟨by kernel_rfl, fun w1 hSw => by clear hHeld; obtain ⟨k0, k1, k2, k3, k4, k5, k6, k7, k8, k9, k10, k11, k12, k13, k14⟩ := HCe.out _ hSw; go_simp⟩) hHeld ?_
  try simp only [Act.put]
  try simp only [List.getElem_toArray]
  try simp only [List.getElem_cons_succ]
  try simp only [List.getElem_cons_zero]
  try simp only [List.setIfInBounds_toArray]
  try simp only [List.set_cons_succ, List.set_cons_zero]
  refine wpAnyH_take (i := 2) (v := .pointer (some ⟨A.a, 0, none⟩)) rfl (by kernel_rfl) (by kernel_rfl) (by kernel_rfl) (fun _ _ _ h => h) (Or.inl ⟨by kernel_rfl, fun w1 hSw => by clear hHeld; obtain ⟨k0, k1, k2, k3, k4, k5, k6, k7, k8, k9, k10, k11, k12, k13, k14⟩ := HCe.out _ hSw; go_simp⟩) hHeld ?_
  try simp only [Act.put]
  try simp only [List.getElem_toArray]
  try simp only [List.getElem_cons_succ]
  try simp only [List.getElem_cons_zero]
  try simp only [List.setIfInBounds_toArray]
  try simp only [List.set_cons_succ, List.set_cons_zero]
  refine wpAnyH_take (i := 3) (v := .pointer (some ⟨A.a, 5, none⟩)) rfl (by kernel_rfl) (by kernel_rfl) (by kernel_rfl) (fun _ _ _ h => h) (Or.inl ⟨by kernel_rfl, fun w1 hSw => by clear hHeld; obtain ⟨k0, k1, k2, k3, k4, k5, k6, k7, k8, k9, k10, k11, k12, k13, k14⟩ := HCe.out _ hSw; go_simp⟩) hHeld ?_
  try simp only [Act.put]
  try simp only [List.getElem_toArray]
  try simp only [List.getElem_cons_succ]
  try simp only [List.getElem_cons_zero]
  try simp only [List.setIfInBounds_toArray]
  try simp only [List.set_cons_succ, List.set_cons_zero]
  refine wpAnyH_take (i := 5) (v := .agg #[.int .i64 x.m.k, .int .i64 x.m.se, .int .i64 x.m.nu, .int .i64 x.m.jo, .int .i64 x.m.ba, .int .i64 x.m.ix, .int .i64 x.m.co, .int .i64 x.m.rc, .int .u64 (x.m.rb : Int), .string x.m.tx, .string x.m.pr, .bool x.tb, .int .i64 x.li, .int .i64 x.ak, .int .i64 x.an]) rfl (by kernel_rfl) (by kernel_rfl) (by kernel_rfl) (fun _ _ _ h => h) (Or.inl ⟨by kernel_rfl, fun w1 hSw => by clear hHeld; obtain ⟨k0, k1, k2, k3, k4, k5, k6, k7, k8, k9, k10, k11, k12, k13, k14⟩ := HCe.out _ hSw; go_simp⟩) hHeld ?_
  try simp only [Act.put]
  try simp only [List.getElem_toArray]
  try simp only [List.getElem_cons_succ]
  try simp only [List.getElem_cons_zero]
  try simp only [List.setIfInBounds_toArray]
  try simp only [List.set_cons_succ, List.set_cons_zero]
  refine wpAnyH_ready (rs := [4, 6]) (by kernel_rfl) (by simp) ?_
  refine AllReadyH.cons rfl (fun K hK => ?_) (AllReadyH.cons rfl (fun K hK => ?_) AllReadyH.nil)
  · go_simp
    refine hK.out _ _ (hHeld) (fun hHeld => ?_)
    clear hK K
    try simp only [Act.put]
    try simp only [List.getElem_toArray]
    try simp only [List.getElem_cons_succ]
    try simp only [List.getElem_cons_zero]
    try simp only [List.setIfInBounds_toArray]
    try simp only [List.set_cons_succ, List.set_cons_zero]
    refine wpAnyH_ready (rs := [6]) (by kernel_rfl) (by simp) ?_
    refine AllReadyH.cons rfl (fun K hK => ?_) AllReadyH.nil
    go_simp
    refine hK.out _ _ (Sx.below hHeld (below_alloc _ _)) (fun hHeld => ?_)
    clear hK K
    try simp only [Act.put]
    try simp only [List.getElem_toArray]
    try simp only [List.getElem_cons_succ]
    try simp only [List.getElem_cons_zero]
    try simp only [List.setIfInBounds_toArray]
    try simp only [List.set_cons_succ, List.set_cons_zero]
    refine wpAnyH_ready (rs := [7]) (by kernel_rfl) (by simp) ?_
    refine AllReadyH.cons rfl (fun K hK => ?_) AllReadyH.nil
    refine step_append_lies _ rfl (.tmp 8) (.tmp 10) 64 rfl B 103 i0 (.agg #[.int .i64 0, .int .i64 0, .int .i64 0, .int .i64 0, .int .i64 0, .int .i64 0, .int .i64 0, .int .i64 0, .int .u64 0, .string ByteArray.empty, .string ByteArray.empty, .bool false, .int .i64 0, .int .i64 0, .int .i64 0]) 15 136 Try.underlying64 hi0 hz0 hz1 hz2 rfl (by decide) A.vw j.way.length (scs j.way) rfl (HM.out.rw_.alloc _) ⟨W.heap.size, 0, none⟩ 1 1 x.cs rfl rfl (World.news_of_block (cs := #[.int .i64 x.m.k, .int .i64 x.m.se, .int .i64 x.m.nu, .int .i64 x.m.jo, .int .i64 x.m.ba, .int .i64 x.m.ix, .int .i64 x.m.co, .int .i64 x.m.rc, .int .u64 (x.m.rb : Int), .string x.m.tx, .string x.m.pr, .bool x.tb, .int .i64 x.li, .int .i64 x.ak, .int .i64 x.an]) (t := 103) (fr := (0, 0)) HNEW.out) (sd_one x) (by decide) (by unfold maxLen; have := HWL.out; omega) (by have := HWL.out; omega) (by show _ ≤ (W.alloc _).heap.size; rw [World.size_alloc]; have := HBS.out; omega) _ rfl ?_
    intro g9 cap9 w9 hown9 hgrow9 hat9 hlt9
    have hO9 : w9.ownsRow B 103 15 (.slice (some ⟨g9, 0, none⟩) (j.way.length + 1) cap9) (j.way ++ [x]).length (scs (j.way ++ [x])) := by rw [List.length_append, scs_append]; exact hown9
    have HN := hide (HM.out.grown (o := .cells #[.int .i64 x.m.k, .int .i64 x.m.se, .int .i64 x.m.nu, .int .i64 x.m.jo, .int .i64 x.m.ba, .int .i64 x.m.ix, .int .i64 x.m.co, .int .i64 x.m.rc, .int .u64 (x.m.rb : Int), .string x.m.tx, .string x.m.pr, .bool x.tb, .int .i64 x.li, .int .i64 x.ak, .int .i64 x.an] 103) hO9 hgrow9 (fun k hk => by injection hk with hk; subst hk; rcases hat9 with e | e; (· exact .inl e); (· have e : g9 = (W.alloc (.cells #[.int .i64 x.m.k, .int .i64 x.m.se, .int .i64 x.m.nu, .int .i64 x.m.jo, .int .i64 x.m.ba, .int .i64 x.m.ix, .int .i64 x.m.co, .int .i64 x.m.rc, .int .u64 (x.m.rb : Int), .string x.m.tx, .string x.m.pr, .bool x.tb, .int .i64 x.li, .int .i64 x.ak, .int .i64 x.an] 103)).heap.size := e; rw [World.size_alloc] at e; exact .inr (by show W.heap.size ≤ g9; omega))))
    have hja := HN.out.1.hj
    have hx9 : Sx w9 X x := ((hgrow9.block X (by show X < (W.alloc _).heap.size; rw [World.size_alloc]; exact Nat.lt_succ_of_lt (Sx.lt HX.out)) (fun e => HXN.out e.symm)).trans (Below.heap_alloc W (.cells #[.int .i64 x.m.k, .int .i64 x.m.se, .int .i64 x.m.nu, .int .i64 x.m.jo, .int .i64 x.m.ba, .int .i64 x.m.ix, .int .i64 x.m.co, .int .i64 x.m.rc, .int .u64 (x.m.rb : Int), .string x.m.tx, .string x.m.pr, .bool x.tb, .int .i64 x.li, .int .i64 x.ak, .int .i64 x.an] 103) _ (Sx.lt HX.out))).trans HX.out
    have hj9 : w9.heap[A.a]? = some (.cells (jC A j) 67 (0, 0)) := ((hgrow9.block A.a (by show A.a < (W.alloc _).heap.size; rw [World.size_alloc]; exact Nat.lt_succ_of_lt HM.out.lt) (fun e => by obtain ⟨cs, hcs⟩ := own_blk HM.out.rw_ e.symm; exact blk_ne hcs HM.out.hj (by decide) rfl)).trans (Below.heap_alloc W (.cells #[.int .i64 x.m.k, .int .i64 x.m.se, .int .i64 x.m.nu, .int .i64 x.m.jo, .int .i64 x.m.ba, .int .i64 x.m.ix, .int .i64 x.m.co, .int .i64 x.m.rc, .int .u64 (x.m.rb : Int), .string x.m.tx, .string x.m.pr, .bool x.tb, .int .i64 x.li, .int .i64 x.ak, .int .i64 x.an] 103) _ HM.out.lt)).trans HM.out.hj
    have y5 : w9.cell? ⟨A.a, 5, none⟩ = some A.vw := by simp [World.cell?, hj9, jC]
    have yz : w9.frozen? ⟨A.a, 5, none⟩ = false := by simp [World.frozen?, hj9]
    have HX9 := hide hx9
    clear hown9 hgrow9 hat9 hO9 hja hx9 hj9 hlt9
    refine hK.out _ _ (HX9.out) (fun hHeld => ?_)
    clear hK K
    try simp only [Act.put]
    try simp only [List.getElem_toArray]
    try simp only [List.getElem_cons_succ]
    try simp only [List.getElem_cons_zero]
    try simp only [List.setIfInBounds_toArray]
    try simp only [List.set_cons_succ, List.set_cons_zero]
    refine wpAnyH_take (i := 8) (v := .pointer (some ⟨A.a, 0, none⟩)) rfl (by kernel_rfl) (by kernel_rfl) (by kernel_rfl) (fun _ _ _ h => h) (Or.inl ⟨by kernel_rfl, fun w1 hSw => by clear hHeld; obtain ⟨k0, k1, k2, k3, k4, k5, k6, k7, k8, k9, k10, k11, k12, k13, k14⟩ := HCe.out _ hSw; go_simp⟩) hHeld ?_
    try simp only [Act.put]
    try simp only [List.getElem_toArray]
    try simp only [List.getElem_cons_succ]
    try simp only [List.getElem_cons_zero]
    try simp only [List.setIfInBounds_toArray]
    try simp only [List.set_cons_succ, List.set_cons_zero]
    refine wpAnyH_take (i := 9) (v := .pointer (some ⟨A.a, 5, none⟩)) rfl (by kernel_rfl) (by kernel_rfl) (by kernel_rfl) (fun _ _ _ h => h) (Or.inl ⟨by kernel_rfl, fun w1 hSw => by clear hHeld; obtain ⟨k0, k1, k2, k3, k4, k5, k6, k7, k8, k9, k10, k11, k12, k13, k14⟩ := HCe.out _ hSw; go_simp⟩) hHeld ?_
    try simp only [Act.put]
    try simp only [List.getElem_toArray]
    try simp only [List.getElem_cons_succ]
    try simp only [List.getElem_cons_zero]
    try simp only [List.setIfInBounds_toArray]
    try simp only [List.set_cons_succ, List.set_cons_zero]
    refine wpAnyH_ready (rs := [10]) (by kernel_rfl) (by simp) ?_
    refine AllReadyH.cons rfl (fun K hK => ?_) AllReadyH.nil
    go_simp
    refine hK.out _ _ ((Below.heap_setCell _ _ _ X HXA.out).trans HX9.out) (fun hHeld => ?_)
    clear hK K
    try simp only [Act.put]
    try simp only [List.getElem_toArray]
    try simp only [List.getElem_cons_succ]
    try simp only [List.getElem_cons_zero]
    try simp only [List.setIfInBounds_toArray]
    try simp only [List.set_cons_succ, List.set_cons_zero]
    refine wpAnyH_done (by kernel_rfl) ?_ _
    have HF := HN
    clear hHeld
    go_end0
    exact ⟨rfl, _, by rfl, HF.out.1, HJ.out.trans HF.out.2⟩
  · go_simp
    refine hK.out _ _ (Sx.below hHeld (below_alloc _ _)) (fun hHeld => ?_)
    clear hK K
    try simp only [Act.put]
    try simp only [List.getElem_toArray]
    try simp only [List.getElem_cons_succ]
    try simp only [List.getElem_cons_zero]
    try simp only [List.setIfInBounds_toArray]
    try simp only [List.set_cons_succ, List.set_cons_zero]
    refine wpAnyH_ready (rs := [4]) (by kernel_rfl) (by simp) ?_
    refine AllReadyH.cons rfl (fun K hK => ?_) AllReadyH.nil
    go_simp
    refine hK.out _ _ (hHeld) (fun hHeld => ?_)
    clear hK K
    try simp only [Act.put]
    try simp only [List.getElem_toArray]
    try simp only [List.getElem_cons_succ]
    try simp only [List.getElem_cons_zero]
    try simp only [List.setIfInBounds_toArray]
    try simp only [List.set_cons_succ, List.set_cons_zero]
    refine wpAnyH_ready (rs := [7]) (by kernel_rfl) (by simp) ?_
    refine AllReadyH.cons rfl (fun K hK => ?_) AllReadyH.nil
    refine step_append_lies _ rfl (.tmp 8) (.tmp 10) 64 rfl B 103 i0 (.agg #[.int .i64 0, .int .i64 0, .int .i64 0, .int .i64 0, .int .i64 0, .int .i64 0, .int .i64 0, .int .i64 0, .int .u64 0, .string ByteArray.empty, .string ByteArray.empty, .bool false, .int .i64 0, .int .i64 0, .int .i64 0]) 15 136 Try.underlying64 hi0 hz0 hz1 hz2 rfl (by decide) A.vw j.way.length (scs j.way) rfl (HM.out.rw_.alloc _) ⟨W.heap.size, 0, none⟩ 1 1 x.cs rfl rfl (World.news_of_block (cs := #[.int .i64 x.m.k, .int .i64 x.m.se, .int .i64 x.m.nu, .int .i64 x.m.jo, .int .i64 x.m.ba, .int .i64 x.m.ix, .int .i64 x.m.co, .int .i64 x.m.rc, .int .u64 (x.m.rb : Int), .string x.m.tx, .string x.m.pr, .bool x.tb, .int .i64 x.li, .int .i64 x.ak, .int .i64 x.an]) (t := 103) (fr := (0, 0)) HNEW.out) (sd_one x) (by decide) (by unfold maxLen; have := HWL.out; omega) (by have := HWL.out; omega) (by show _ ≤ (W.alloc _).heap.size; rw [World.size_alloc]; have := HBS.out; omega) _ rfl ?_
    intro g9 cap9 w9 hown9 hgrow9 hat9 hlt9
    have hO9 : w9.ownsRow B 103 15 (.slice (some ⟨g9, 0, none⟩) (j.way.length + 1) cap9) (j.way ++ [x]).length (scs (j.way ++ [x])) := by rw [List.length_append, scs_append]; exact hown9
    have HN := hide (HM.out.grown (o := .cells #[.int .i64 x.m.k, .int .i64 x.m.se, .int .i64 x.m.nu, .int .i64 x.m.jo, .int .i64 x.m.ba, .int .i64 x.m.ix, .int .i64 x.m.co, .int .i64 x.m.rc, .int .u64 (x.m.rb : Int), .string x.m.tx, .string x.m.pr, .bool x.tb, .int .i64 x.li, .int .i64 x.ak, .int .i64 x.an] 103) hO9 hgrow9 (fun k hk => by injection hk with hk; subst hk; rcases hat9 with e | e; (· exact .inl e); (· have e : g9 = (W.alloc (.cells #[.int .i64 x.m.k, .int .i64 x.m.se, .int .i64 x.m.nu, .int .i64 x.m.jo, .int .i64 x.m.ba, .int .i64 x.m.ix, .int .i64 x.m.co, .int .i64 x.m.rc, .int .u64 (x.m.rb : Int), .string x.m.tx, .string x.m.pr, .bool x.tb, .int .i64 x.li, .int .i64 x.ak, .int .i64 x.an] 103)).heap.size := e; rw [World.size_alloc] at e; exact .inr (by show W.heap.size ≤ g9; omega))))
    have hja := HN.out.1.hj
    have hx9 : Sx w9 X x := ((hgrow9.block X (by show X < (W.alloc _).heap.size; rw [World.size_alloc]; exact Nat.lt_succ_of_lt (Sx.lt HX.out)) (fun e => HXN.out e.symm)).trans (Below.heap_alloc W (.cells #[.int .i64 x.m.k, .int .i64 x.m.se, .int .i64 x.m.nu, .int .i64 x.m.jo, .int .i64 x.m.ba, .int .i64 x.m.ix, .int .i64 x.m.co, .int .i64 x.m.rc, .int .u64 (x.m.rb : Int), .string x.m.tx, .string x.m.pr, .bool x.tb, .int .i64 x.li, .int .i64 x.ak, .int .i64 x.an] 103) _ (Sx.lt HX.out))).trans HX.out
    have hj9 : w9.heap[A.a]? = some (.cells (jC A j) 67 (0, 0)) := ((hgrow9.block A.a (by show A.a < (W.alloc _).heap.size; rw [World.size_alloc]; exact Nat.lt_succ_of_lt HM.out.lt) (fun e => by obtain ⟨cs, hcs⟩ := own_blk HM.out.rw_ e.symm; exact blk_ne hcs HM.out.hj (by decide) rfl)).trans (Below.heap_alloc W (.cells #[.int .i64 x.m.k, .int .i64 x.m.se, .int .i64 x.m.nu, .int .i64 x.m.jo, .int .i64 x.m.ba, .int .i64 x.m.ix, .int .i64 x.m.co, .int .i64 x.m.rc, .int .u64 (x.m.rb : Int), .string x.m.tx, .string x.m.pr, .bool x.tb, .int .i64 x.li, .int .i64 x.ak, .int .i64 x.an] 103) _ HM.out.lt)).trans HM.out.hj
    have y5 : w9.cell? ⟨A.a, 5, none⟩ = some A.vw := by simp [World.cell?, hj9, jC]
    have yz : w9.frozen? ⟨A.a, 5, none⟩ = false := by simp [World.frozen?, hj9]
    have HX9 := hide hx9
    clear hown9 hgrow9 hat9 hO9 hja hx9 hj9 hlt9
    refine hK.out _ _ (HX9.out) (fun hHeld => ?_)
    clear hK K
    try simp only [Act.put]
    try simp only [List.getElem_toArray]
    try simp only [List.getElem_cons_succ]
    try simp only [List.getElem_cons_zero]
    try simp only [List.setIfInBounds_toArray]
    try simp only [List.set_cons_succ, List.set_cons_zero]
    refine wpAnyH_take (i := 8) (v := .pointer (some ⟨A.a, 0, none⟩)) rfl (by kernel_rfl) (by kernel_rfl) (by kernel_rfl) (fun _ _ _ h => h) (Or.inl ⟨by kernel_rfl, fun w1 hSw => by clear hHeld; obtain ⟨k0, k1, k2, k3, k4, k5, k6, k7, k8, k9, k10, k11, k12, k13, k14⟩ := HCe.out _ hSw; go_simp⟩) hHeld ?_
    try simp only [Act.put]
    try simp only [List.getElem_toArray]
    try simp only [List.getElem_cons_succ]
    try simp only [List.getElem_cons_zero]
    try simp only [List.setIfInBounds_toArray]
    try simp only [List.set_cons_succ, List.set_cons_zero]
    refine wpAnyH_take (i := 9) (v := .pointer (some ⟨A.a, 5, none⟩)) rfl (by kernel_rfl) (by kernel_rfl) (by kernel_rfl) (fun _ _ _ h => h) (Or.inl ⟨by kernel_rfl, fun w1 hSw => by clear hHeld; obtain ⟨k0, k1, k2, k3, k4, k5, k6, k7, k8, k9, k10, k11, k12, k13, k14⟩ := HCe.out _ hSw; go_simp⟩) hHeld ?_
    try simp only [Act.put]
    try simp only [List.getElem_toArray]
    try simp only [List.getElem_cons_succ]
    try simp only [List.getElem_cons_zero]
    try simp only [List.setIfInBounds_toArray]
    try simp only [List.set_cons_succ, List.set_cons_zero]
    refine wpAnyH_ready (rs := [10]) (by kernel_rfl) (by simp) ?_
    refine AllReadyH.cons rfl (fun K hK => ?_) AllReadyH.nil
    go_simp
    refine hK.out _ _ ((Below.heap_setCell _ _ _ X HXA.out).trans HX9.out) (fun hHeld => ?_)
    clear hK K
    try simp only [Act.put]
    try simp only [List.getElem_toArray]
    try simp only [List.getElem_cons_succ]
    try simp only [List.getElem_cons_zero]
    try simp only [List.setIfInBounds_toArray]
    try simp only [List.set_cons_succ, List.set_cons_zero]
    refine wpAnyH_done (by kernel_rfl) ?_ _
    have HF := HN
    clear hHeld
    go_end0
    exact ⟨rfl, _, by rfl, HF.out.1, HJ.out.trans HF.out.2⟩

end
end Go.Proofs.Ytonoogiadgjodaa
