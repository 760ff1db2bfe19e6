import Derived.Test.YtkfnedhllfdghaaGreatDoorMgBB
import Derived.Deep.Cut
import Derived.Great.BuildSlice
import Derived.Great.Walk
import Derived.Deep.AppendLies
import Derived.Laws.RangeAny
import Derived.Laws.RangeString
import Derived.Laws.StructEq
import Derived.Lib.OthersKept
import Derived.Test.YtkfnedhllfdghaaGreatDoorMgAA
import Derived.Shelf.Strings.BuilderK

section
namespace Go.Proofs.YtkfnedhllfdghaaGreatDoor.W
set_option maxRecDepth 20000
open Go.RowKit Go.Shelf
open Wr (Ms V L)

theorem fieldOf_any {w : World} {A : Nat} {m : Ms} (h : Mg w A m) (l : L) : Calls Tryz.prog 144 #[.pointer (some ⟨A, 0, none⟩), .int .i32 (chr l)] w (FOPost A m.k l w) := by
  cases l
  · exact fieldOf_S h
  · exact fieldOf_N h
  · exact fieldOf_J h
  · exact fieldOf_B h
  · exact fieldOf_I h
  · exact fieldOf_C h
  · exact fieldOf_R h
  · exact fieldOf_T h
  · exact fieldOf_P h

def namesC : Array Value := #[.string ⟨#[]⟩, .string ⟨#[]⟩, .string ⟨#[83, 78]⟩, .string ⟨#[83, 78, 66]⟩, .string ⟨#[83, 78, 66, 67, 82]⟩, .string ⟨#[66, 73, 84]⟩, .string ⟨#[74, 66, 73, 84]⟩, .string ⟨#[83]⟩, .string ⟨#[83, 78]⟩, .string ⟨#[83, 78, 74, 66, 80]⟩, .string ⟨#[83, 78]⟩, .string ⟨#[83, 78]⟩, .string ⟨#[83, 78]⟩, .string ⟨#[83, 78]⟩, .string ⟨#[66, 67]⟩, .string ⟨#[74, 66, 67]⟩, .string ⟨#[74, 66]⟩]
set_option maxRecDepth 20000 in
set_option maxHeartbeats 1000000 in
theorem named_any (w : World) : Calls Tryz.prog 143 #[] w fun e w' => e = .returned (.agg namesC) ∧ Below w.heap.size w w' := by
  go_enter Tryz.func143, Tryz.ntmps143
  refine wp_seq (wp_region_list ?_)
  refine Great.wpList_allocTo rfl _ rfl (.pointer (some ⟨w.heap.size, 0, none⟩)) (.cells (Array.replicate 17 (.string ⟨#[]⟩)) 227) (by kernel_rfl) ?_
  show Code.wp _ _ _ _ _
  refine wp_seq (wp_region_list ?_)
  refine wpList_buildTo rfl 227 _ rfl _ rfl namesC (by kernel_rfl) ?_
  refine wpList_store_row rfl 227 _ _ rfl w.heap.size namesC (by kernel_rfl) (by kernel_rfl) 227 (Array.replicate 17 (.string ⟨#[]⟩)) (heap_alloc_new w _) (by kernel_rfl) (by kernel_rfl) (by kernel_rfl) ?_
  show Code.wp _ _ _ _ _
  refine wp_ret ?_
  have hb : ((w.alloc (.cells (Array.replicate 17 (.string ⟨#[]⟩)) 227)).setRow w.heap.size namesC).heap[w.heap.size]? = some (.cells namesC 227 (0, 0))  := setRow_heap _ _ _ _ _ _ (heap_alloc_new w _)
  refine bodyPost_ret (results_cell_row (p := 0) (ty := 227) (by kernel_rfl) _ _ w.heap.size 227 namesC (0, 0) (.array 17 9) (by kernel_rfl) hb (by kernel_rfl) rfl (by kernel_rfl)) (by kernel_rfl) ⟨rfl, ?_⟩
  exact ⟨rfl, rfl, rfl, by simp [World.setRow], fun i hi => (setRow_other _ _ _ _ (by omega)).trans (heap_alloc_old w _ hi)⟩

def lstr (ls : List L) : ByteArray := ⟨(ls.map fun l => UInt8.ofNat (chr l).toNat).toArray⟩
theorem lstr_size (ls : List L) : (lstr ls).size = ls.length := by show (List.toArray _).size = _; simp
theorem lstr_dec (ls : List L) (i : Nat) (h : i < ls.length) : Utf8.decode (lstr ls) i = ((chr ls[i]).toNat, 1) := by
  have h' : i < (lstr ls).size := by rw [lstr_size]; exact h
  have e : ((lstr ls)[i]'h') = UInt8.ofNat (chr ls[i]).toNat := by
    have t : ((ls.map fun l => UInt8.ofNat (chr l).toNat).toArray)[i]'(by simpa using h) = UInt8.ofNat (chr ls[i]).toNat := by simp
    exact t
  have e2 : ((lstr ls)[i]'h').toNat = (chr ls[i]).toNat := by rw [e]; cases ls[i] <;> rfl
  rw [decode_ascii _ _ h' (by rw [e2]; cases ls[i] <;> decide), e2]
theorem chr_nat (l : L) : ((chr l).toNat : Int) = chr l := by cases l <;> rfl
theorem names_at (k : Int) (h0 : 0 ≤ k) (h1 : k ≤ 16) (W : World) : (Instr.index 227 (.agg namesC) (.int .i64 k)).run Tryz.prog W = .ok (.string (lstr (Wr.letters k))) W := by
  have : k = 0 ∨ k = 1 ∨ k = 2 ∨ k = 3 ∨ k = 4 ∨ k = 5 ∨ k = 6 ∨ k = 7 ∨ k = 8 ∨ k = 9 ∨ k = 10 ∨ k = 11 ∨ k = 12 ∨ k = 13 ∨ k = 14 ∨ k = 15 ∨ k = 16 := by omega
  rcases this with rfl | rfl | rfl | rfl | rfl | rfl | rfl | rfl | rfl | rfl | rfl | rfl | rfl | rfl | rfl | rfl | rfl <;> rfl

def iterSet (w : World) (I : Nat) (s : ByteArray) (pos : Nat) : World := { w with heap := w.heap.setIfInBounds I (.stringIter s pos) }
theorem next_at {w : World} {I pos : Nat} {s : ByteArray} (h : w.heap[I]? = some (.stringIter s pos)) (hp : pos < s.size) (ty : TypeId) :
    (Instr.next (.pointer (some ⟨I, 0, none⟩)) true ty).run Tryz.prog w = .ok (.tuple #[.bool true, .int .i64 pos, .int .i32 (Utf8.decode s pos).1]) (iterSet w I s (pos + (Utf8.decode s pos).2)) := by
  simp only [Instr.next, getObj, setObj, Sem.run_bind, Sem.run, h, Result.andThen, hp, if_true]
  simp [goInt, iterSet]
theorem next_end {w : World} {I pos : Nat} {s : ByteArray} (h : w.heap[I]? = some (.stringIter s pos)) (hp : ¬ pos < s.size) (ty : TypeId) :
    (Instr.next (.pointer (some ⟨I, 0, none⟩)) true ty).run Tryz.prog w = .ok (.tuple #[.bool false]) w := by
  simp only [Instr.next, getObj, setObj, Sem.run_bind, Sem.run, h, Result.andThen, hp, if_false]
  simp
theorem iterSet_same {w : World} {I pos : Nat} {s : ByteArray} (h : I < w.heap.size) : (iterSet w I s pos).heap[I]? = some (.stringIter s pos) := by
  show (w.heap.setIfInBounds I _)[I]? = _
  simp [h]
theorem iterSet_other {w : World} {I pos j : Nat} {s : ByteArray} (h : j ≠ I) : (iterSet w I s pos).heap[j]? = w.heap[j]? := by
  show (w.heap.setIfInBounds I _)[j]? = _
  rw [Array.getElem?_setIfInBounds_ne (Ne.symm h)]
theorem iterSet_size (w : World) (I pos : Nat) (s : ByteArray) : (iterSet w I s pos).heap.size = w.heap.size := by
  show (w.heap.setIfInBounds I _).size = _
  simp
end Go.Proofs.YtkfnedhllfdghaaGreatDoor.W
end

section
namespace Go.Proofs.YtkfnedhllfdghaaGreatDoor.W
set_option maxRecDepth 20000
open Go.RowKit Go.Shelf
open Wr (Ms V L)

theorem Tryz.infoF : (Tryz.prog.info? 179).map (fun i => (i.zero, i.size, i.bytes)) = some (some (.agg #[.nilFunc, .nilFunc, .nilFunc, .nilFunc]), 4, 32) := by kernel_rfl
/-- the fields made so far -/
def FdAt (A base : Nat) (k : Int) (ls : List L) (n : Nat) (G I : Nat) (w : World) (xs : List Value) : Prop :=
  ∀ i (h : i < ls.length), i < n → ∃ bs, Fd A base k ls[i] bs w (xs.getD (4 * i) undef) (xs.getD (4 * i + 1) undef) (xs.getD (4 * i + 2) undef) (xs.getD (4 * i + 3) undef) ∧ G ∉ bs ∧ I ∉ bs
theorem FdAt.keep {A base : Nat} {k : Int} {ls : List L} {n G I : Nat} {w w' : World} {xs : List Value} (h : FdAt A base k ls n G I w xs) (hk : ∀ j, base ≤ j → j < w.heap.size → j ≠ G → j ≠ I → w'.heap[j]? = w.heap[j]?) : FdAt A base k ls n G I w' xs := by
  intro i hi hn
  obtain ⟨bs, hF, h1, h2⟩ := h i hi hn
  exact ⟨bs, hF.keep (fun j hj => hk j (hF.high j hj).1 (hF.high j hj).2 (fun e => h1 (e ▸ hj)) (fun e => h2 (e ▸ hj))), h1, h2⟩
theorem FdAt.move {A base : Nat} {k : Int} {ls : List L} {n G G' I : Nat} {w : World} {xs : List Value} (h : FdAt A base k ls n G I w xs) (hG : w.heap.size ≤ G' ∨ G' = G) : FdAt A base k ls n G' I w xs := by
  intro i hi hn
  obtain ⟨bs, hF, h1, h2⟩ := h i hi hn
  refine ⟨bs, hF, ?_, h2⟩
  rcases hG with hG | rfl
  · intro hm; have := (hF.high _ hm).2; omega
  · exact h1
theorem getD_left {xs ys : List Value} {i : Nat} (h : i < xs.length) : (xs ++ ys).getD i undef = xs.getD i undef := by
  simp [List.getD_eq_getElem?_getD, List.getElem?_append_left h]
theorem getD_right {xs ys : List Value} {n j : Nat} (h : xs.length = n) : (xs ++ ys).getD (n + j) undef = ys.getD j undef := by
  subst h; rw [List.getD_eq_getElem?_getD, List.getD_eq_getElem?_getD, List.getElem?_append_right (by omega)]; congr 2; omega
theorem FdAt.snoc {A base : Nat} {k : Int} {ls : List L} {n G I : Nat} {w : World} {xs : List Value} {v0 v1 v2 v3 : Value} {bs : List Nat} (h : FdAt A base k ls n G I w xs) (hx : xs.length = n * 4) (hn : n < ls.length) (hF : Fd A base k ls[n] bs w v0 v1 v2 v3) (h1 : G ∉ bs) (h2 : I ∉ bs) :
    FdAt A base k ls (n + 1) G I w (xs ++ [v0, v1, v2, v3]) := by
  intro i hi hlt
  by_cases e : i = n
  · subst e
    refine ⟨bs, ?_, h1, h2⟩
    rw [show 4 * i = i * 4 + 0 by omega, getD_right hx, show i * 4 + 0 + 1 = i * 4 + 1 by omega, getD_right hx, show i * 4 + 0 + 2 = i * 4 + 2 by omega, getD_right hx, show i * 4 + 0 + 3 = i * 4 + 3 by omega, getD_right hx]
    exact hF
  · obtain ⟨bs', hF', g1, g2⟩ := h i hi (by omega)
    refine ⟨bs', ?_, g1, g2⟩
    rw [getD_left (by omega), getD_left (by omega), getD_left (by omega), getD_left (by omega)]
    exact hF'
theorem len_ite {c : Prop} [Decidable c] {a b : List L} (ha : a.length ≤ 5) (hb : b.length ≤ 5) : (if c then a else b).length ≤ 5 := by
  by_cases h : c
  · rw [if_pos h]; exact ha
  · rw [if_neg h]; exact hb
theorem letters_five (k : Int) : (Wr.letters k).length ≤ 5 := by
  unfold Wr.letters
  repeat (refine len_ite (by decide) ?_)
  decide
structure FsInv (w : World) (A I G : Nat) (m : Ms) (ls : List L) (i cap : Nat) (xs : List Value) (w' : World) : Prop where
  own : w'.ownsRow w.heap.size 179 4 (.slice (some ⟨G, 0, none⟩) i cap) i xs
  it : w'.heap[I]? = some (.stringIter (lstr ls) i)
  ne : I ≠ G
  lo : w.heap.size ≤ I
  mg : Mg w' A m
  bl : Below w.heap.size w w'
  fd : FdAt A w.heap.size m.k ls i G I w' xs
theorem own_keep {w w' : World} {base : Nat} {e : TypeId} {sz : Nat} {v : Value} {n : Nat} {xs : List Value} (h : w.ownsRow base e sz v n xs) (hk : ∀ k, v.ownBlock = some k → w'.heap[k]? = w.heap[k]?) : w'.ownsRow base e sz v n xs := by
  obtain ⟨h1, h2⟩ := h
  refine ⟨h1, ?_⟩
  rcases h2 with h2 | ⟨g, cap, cur, hv, hg, hb, r⟩
  · exact .inl h2
  · exact .inr ⟨g, cap, cur, hv, hg, (hk g (by rw [hv]; rfl)).trans hb, r⟩
theorem own_lt {w : World} {base : Nat} {e : TypeId} {sz G n c m : Nat} {xs : List Value} (h : w.ownsRow base e sz (.slice (some ⟨G, 0, none⟩) n c) m xs) : base ≤ G ∧ G < w.heap.size := by
  obtain ⟨h1, h2⟩ := h
  rcases h2 with ⟨h2, _⟩ | ⟨g, cap, cur, hv, hg, hb, r⟩
  · cases h2
  · cases hv; exact ⟨hg, lt_of_block hb⟩
theorem FsInv.mid {w : World} {A I G : Nat} {m : Ms} {ls : List L} {i cap : Nat} {xs : List Value} {wr w3 : World} (hA : A < w.heap.size) (h : FsInv w A I G m ls i cap xs wr) (hb : Below (iterSet wr I (lstr ls) (i + 1)).heap.size (iterSet wr I (lstr ls) (i + 1)) w3) :
    w3.ownsRow w.heap.size 179 4 (.slice (some ⟨G, 0, none⟩) i cap) i xs ∧ w3.heap[I]? = some (.stringIter (lstr ls) (i + 1)) ∧ Mg w3 A m ∧ Below w.heap.size w w3 ∧ FdAt A w.heap.size m.k ls i G I w3 xs ∧ wr.heap.size ≤ w3.heap.size := by
  have hI := lt_of_block h.it
  have hG := own_lt h.own
  have hk : ∀ j, j < wr.heap.size → j ≠ I → w3.heap[j]? = wr.heap[j]? := fun j hj hn => (hb.block j (by rw [iterSet_size]; exact hj)).trans (iterSet_other hn)
  have hs : wr.heap.size ≤ w3.heap.size := by have := hb.size; rw [iterSet_size] at this; exact this
  have hws := h.bl.size
  refine ⟨own_keep h.own fun k e => ?_, (hb.block I (by rw [iterSet_size]; exact hI)).trans (iterSet_same hI), h.mg.block (hk A (by omega) (by have := h.lo; omega)), ?_, h.fd.keep fun j _ hj _ h2 => hk j hj h2, hs⟩
  · cases e; exact hk G hG.2 (Ne.symm h.ne)
  · exact ⟨hb.os.trans h.bl.os, hb.tape.trans h.bl.tape, hb.output.trans h.bl.output, by omega, fun j hj => (hk j (by omega) (by have := h.lo; omega)).trans (h.bl.block j hj)⟩
theorem FsInv.step {w : World} {A I G : Nat} {m : Ms} {ls : List L} {i cap : Nat} {xs : List Value} {wr w3 w4 : World} {v0 v1 v2 v3 : Value} {bs : List Nat} {g3 cap3 : Nat} {o : Obj} (hA : A < w.heap.size) (h : FsInv w A I G m ls i cap xs wr)
    (hb : Below (iterSet wr I (lstr ls) (i + 1)).heap.size (iterSet wr I (lstr ls) (i + 1)) w3) (hi : i < ls.length) (hF : Fd A ((iterSet wr I (lstr ls) (i + 1)).heap.size + 1) m.k ls[i] bs w3 v0 v1 v2 v3)
    (hown : w4.ownsRow w.heap.size 179 4 (.slice (some ⟨g3, 0, none⟩) (i + 1) cap3) (i + 1) (xs ++ [v0, v1, v2, v3])) (hgr : (w3.alloc o).grownBy w4 (some G)) (hat : some G = some g3 ∨ g3 = (w3.alloc o).heap.size) :
    FsInv w A I g3 m ls (i + 1) cap3 (xs ++ [v0, v1, v2, v3]) w4 := by
  obtain ⟨a1, a2, a3, a4, a5, a6⟩ := h.mid hA hb
  have hI := lt_of_block h.it
  have hG := own_lt h.own
  have hlo := h.lo
  rw [iterSet_size] at hF
  have hsz : (w3.alloc o).heap.size = w3.heap.size + 1 := by simp
  have hk : ∀ j, j < w3.heap.size → j ≠ G → w4.heap[j]? = w3.heap[j]? := fun j hj hn => (hgr.block j (by omega) (by simpa using hn)).trans (Below.heap_alloc w3 o j hj)
  have hs4 := hgr.size
  have hg3 : g3 = G ∨ g3 = w3.heap.size + 1 := by rcases hat with e | e
                                                  · left; cases e; rfl
                                                  · right; omega
  have hws := h.bl.size
  have hFk : Fd A w.heap.size m.k ls[i] bs w4 v0 v1 v2 v3 := (hF.keep fun j hj => hk j (hF.high j hj).2 (by have := (hF.high j hj).1; omega)).mono (by omega)
  refine ⟨hown, (hk I (by omega) h.ne).trans a2, ?_, hlo, a3.block (hk A (by omega) (by omega)), ?_, ?_⟩
  · rcases hg3 with e | e
    · rw [e]; exact h.ne
    · omega
  · exact ⟨hgr.os.trans a4.os, hgr.tape.trans a4.tape, hgr.output.trans a4.output, by omega, fun j hj => (hk j (by omega) (by omega)).trans (a4.block j hj)⟩
  · have hx : xs.length = i * 4 := a1.1
    refine FdAt.snoc ?_ hx hi hFk ?_ ?_
    · have b1 := a5.move (G' := g3) (by rcases hg3 with e | e
                                        · exact .inr e
                                        · left; omega)
      intro i' hi' hn'
      obtain ⟨bs', f1, f2, f3⟩ := b1 i' hi' hn'
      obtain ⟨bs'', f1', f2', f3'⟩ := a5 i' hi' hn'
      refine ⟨bs'', f1'.keep (fun j hj => hk j (f1'.high j hj).2 (fun e => f2' (e ▸ hj))), ?_, f3'⟩
      rcases hg3 with e | e
      · rw [e]; exact f2'
      · intro hm; have := (f1'.high _ hm).2; omega
    · intro hm
      have := hF.high _ hm
      rcases hg3 with e | e <;> omega
    · intro hm
      have := (hF.high _ hm).1
      omega
def lenOf : Value → Nat
  | .slice _ n _ => n | _ => 0
theorem Fd.one {A base : Nat} {k : Int} {l : L} {bs : List Nat} {w : World} {v0 v1 v2 v3 : Value} (h : Fd A base k l bs w v0 v1 v2 v3) : ∀ u ∈ [v0, v1, v2, v3], u.oneCell' = true := by
  obtain ⟨P, i1, i2, i3, i4, c1, c2, c3, c4, rfl, rfl, rfl, rfl, hP, hF⟩ := h
  intro u hu; simp at hu; rcases hu with rfl | rfl | rfl | rfl <;> rfl
theorem four_new (w : World) (v0 v1 v2 v3 : Value) (t : TypeId) : ∀ j u, [v0, v1, v2, v3][j]? = some u → (w.alloc (.cells #[v0, v1, v2, v3] t)).cell? ((⟨w.heap.size, 0, none⟩ : Addr).add j) = some u := by
  intro j u hu
  rw [Addr.add_lit, World.cell?_alloc_at _ _ _ _ rfl]
  simpa using hu
set_option maxRecDepth 8000 in
set_option maxHeartbeats 1000000 in
theorem fieldsOf_any {w : World} {A : Nat} {m : Ms} (h : Mg w A m) (h0 : 0 ≤ m.k) (h1 : m.k ≤ 16) :
    Calls Tryz.prog 101 #[.pointer (some ⟨A, 0, none⟩)] w fun e w' => ∃ G cap xs I, e = .returned (.slice (some ⟨G, 0, none⟩) (Wr.letters m.k).length cap) ∧ FsInv w A I G m (Wr.letters m.k) (Wr.letters m.k).length cap xs w' := by
  obtain ⟨iF, hiF, zF0, zF1, zF2⟩ := info_parts Tryz.infoF
  have c0 := h.c0
  have hlt := h.lt
  have HN := hide (names_at m.k h0 h1)
  have HA := hide named_any
  have HM := hide h
  generalize hls : Wr.letters m.k = ls at *
  have hlen : ls.length ≤ 5 := by
    subst hls
    exact letters_five _
  have hss := lstr_size ls
  generalize hs : lstr ls = s at *
  go_enter Tryz.func101, Tryz.ntmps101
  go_wp2_with fail
  have hidx := HN.out
  go_region_held3 (fun w' => w'.cell? ⟨A, 0, none⟩ = some (.int .i64 m.k)) (first | go_keep | exact ka) (first
    | (go_at_call 143; refine (HA.out _).mono ?_; rintro e w1 ⟨rfl, hb1⟩; have hb1 := below_dr (n := 1) hb1; have ka := (hb1.cell (p := ⟨A, 0, none⟩) hlt).trans c0))
  have hb1s := hb1.size
  obtain ⟨w2, hmk, ho2, hg2⟩ := run_make_own w1 w.heap.size 173 179 iF (.agg #[.nilFunc, .nilFunc, .nilFunc, .nilFunc]) 4 Tryz.underlying173 hiF zF0 zF1 .i64 .i64 ls.length (by rw [zF2]; omega) (by unfold maxLen; omega) hb1.size
  have START : Hid (FsInv w A w2.heap.size w1.heap.size m ls 0 ls.length [] (w2.alloc (.stringIter s 0))) := by
    have hl2 := own_lt ho2
    have hg2s := hg2.size
    have hbl : Below w.heap.size w w2 := hb1.trans ((⟨hg2.os, hg2.tape, hg2.output, hg2.size, fun j hj => hg2.block j hj (by simp)⟩ : Below w1.heap.size w1 w2).mono hb1s)
    refine ⟨own_keep ho2 fun k e => ?_, by rw [hs]; exact heap_alloc_new w2 _, by omega, by omega, ?_, hbl.alloc (by omega) _, fun i _ hi => absurd hi (by omega)⟩
    · cases e; exact Below.heap_alloc w2 _ _ hl2.2
    · exact HM.out.block ((Below.heap_alloc w2 _ _ (by omega)).trans (hbl.block A hlt))
  clear ho2 hg2 ka hb1
  go_wp2
  go_loopw [4] (fun v wr => ∃ (i G cap : Nat) (xs : List Value), v = .slice (some ⟨G, 0, none⟩) i cap ∧ i ≤ ls.length ∧ Hid (FsInv w A w2.heap.size G m ls i cap xs wr)) (fun v _ => ls.length - lenOf v)
  case atStart => exact ⟨0, _, _, _, rfl, Nat.zero_le _, START.out⟩
  case round =>
    obtain ⟨i, G, cap, xs, rfl, hi, HI⟩ := hrel
    generalize w2.heap.size = I at *
    by_cases hil : i < ls.length
    · have hnx : ∀ ty, (Instr.next (.pointer (some ⟨I, 0, none⟩)) true ty).run Tryz.prog wr = .ok (.tuple #[.bool true, .int .i64 (i : Int), .int .i32 (chr ls[i])]) (iterSet wr I s (i + 1)) := fun ty => by
        have := next_at HI.out.it (by rw [lstr_size]; exact hil) ty
        rw [lstr_dec ls i hil, hs, chr_nat] at this
        exact this
      have HMQ : Hid (Mg (iterSet wr I s (i + 1)) A m) := by
        have := (HI.out.mid hlt (Below.refl _ _)).2.2.1
        rw [hs] at this
        exact this
      go_wp2_with fail
      refine (fieldOf_any HMQ.out ls[i]).mono ?_
      rintro e w3 ⟨v0, v1, v2, v3, bs, rfl, hb3, hF3⟩
      have HF3 := hide hF3
      have HB3 := hide hb3
      have hb3' : Below (iterSet wr I (lstr ls) (i + 1)).heap.size (iterSet wr I (lstr ls) (i + 1)) w3 := by rw [hs]; exact hb3
      have HB3' := hide hb3'
      have HO3 := hide (HI.out.mid hlt hb3').1
      have hs3 := (HI.out.mid hlt hb3').2.2.2.1.size
      clear hF3 hb3 hb3'
      go_wp2_with (first
        | (at_builtin; refine wpList_append_lies _ rfl _ _ 173 rfl w.heap.size 179 iF (.agg #[.nilFunc, .nilFunc, .nilFunc, .nilFunc]) 4 32 Tryz.underlying173 hiF zF0 zF1 zF2 rfl (by decide) (.slice (some ⟨G, 0, none⟩) i cap) i xs rfl (HO3.out.alloc _) ⟨w3.heap.size, 0, none⟩ 1 1 [v0, v1, v2, v3] rfl rfl (four_new _ _ _ _ _ _) HF3.out.one (by decide) (by unfold maxLen; omega) (by omega) (by rw [World.size_alloc]; omega) _ rfl ?_; intro g3 cap3 w4 hown4 hgrow4 hat4 hlt4; have HS : Hid (FsInv w A I g3 m ls (i + 1) cap3 (xs ++ [v0, v1, v2, v3]) w4) := (HI.out.step hlt HB3'.out hil (by rw [hs]; exact HF3.out) hown4 hgrow4 hat4); clear hown4 hgrow4 hat4 hlt4)
        | go_in)
      exact ⟨⟨i + 1, g3, cap3, _, rfl, by omega, HS.out⟩, by simp [lenOf]; omega⟩
    · have hnx : ∀ ty, (Instr.next (.pointer (some ⟨I, 0, none⟩)) true ty).run Tryz.prog wr = .ok (.tuple #[.bool false]) wr := fun ty => next_end HI.out.it (by rw [lstr_size]; exact hil) ty
      obtain rfl : i = ls.length := by omega
      go_wp2
      go_ret
      exact ⟨G, cap, xs, I, rfl, HI.out⟩
end Go.Proofs.YtkfnedhllfdghaaGreatDoor.W
end

section
namespace Go.Proofs.YtkfnedhllfdghaaGreatDoor.W
set_option maxRecDepth 20000
open Go.RowKit Go.Shelf
open Wr (Ms V L)
theorem toList_inj {a b : ByteArray} (h : a.toList = b.toList) : a = b := by
  rw [ByteArray.toList_eq, ByteArray.toList_eq] at h
  exact ByteArray.ext (Array.toList_inj.mp h)
set_option maxHeartbeats 1000000 in
theorem equalIn_msg (a b : Ms) (w : World) : (Op.equalIn 10000 67 (.agg (msgC a)) (.agg (msgC b))).run Tryz.prog w = .ok (decide (a = b)) w := by
  unfold msgC
  go_simp
  by_cases e : a = b
  · subst e; simp
  · rw [decide_eq_false e]
    repeat' split
    all_goals first
      | rfl
      | (exfalso; apply e; apply Ms.ext <;> first | assumption | omega | (apply toList_inj; assumption))
theorem eql_msg (a b : Ms) (w : World) : (binOp .eql 67 (.agg (msgC a)) (.agg (msgC b))).run Tryz.prog w = .ok (.bool (decide (a = b))) w := by
  rw [run_eql_struct, equalIn_msg]; rfl
theorem neq_msg (a b : Ms) (w : World) : (binOp .neq 67 (.agg (msgC a)) (.agg (msgC b))).run Tryz.prog w = .ok (.bool (!decide (a = b))) w := by
  rw [run_neq_struct, equalIn_msg]; rfl
end Go.Proofs.YtkfnedhllfdghaaGreatDoor.W
end

section
namespace Go.Proofs.YtkfnedhllfdghaaGreatDoor.W
set_option maxRecDepth 20000
open Go.RowKit Go.Shelf
open Wr (Ms V L)

/-- the fields' row, as it is read -/
structure Row (A base : Nat) (k : Int) (ls : List L) (G : Nat) (xs : List Value) (w : World) : Prop where
  cell : ∀ i j, i < ls.length → j < 4 → w.cell? ⟨G, i * 4 + j, none⟩ = some (xs.getD (4 * i + j) undef)
  fd : ∀ i (h : i < ls.length), ∃ bs, Fd A base k ls[i] bs w (xs.getD (4 * i) undef) (xs.getD (4 * i + 1) undef) (xs.getD (4 * i + 2) undef) (xs.getD (4 * i + 3) undef)
  lo : base ≤ G
  obj : ∃ cs, w.heap[G]? = some (.cells cs 179 (0, 0))
theorem Row.hi {A base : Nat} {k : Int} {ls : List L} {G : Nat} {xs : List Value} {w : World} (h : Row A base k ls G xs w) : G < w.heap.size := by
  obtain ⟨cs, hc⟩ := h.obj
  exact lt_of_block hc
theorem Row.keep {A base : Nat} {k : Int} {ls : List L} {G : Nat} {xs : List Value} {w w' : World} (h : Row A base k ls G xs w) (hk : ∀ j, base ≤ j → j < w.heap.size → w'.heap[j]? = w.heap[j]?) : Row A base k ls G xs w' := by
  refine ⟨fun i j hi hj => ?_, fun i hi => ?_, h.lo, h.obj.imp fun cs hc => (hk G h.lo h.hi).trans hc⟩
  · rw [World.cell?_of_block (hk G h.lo h.hi)]; exact h.cell i j hi hj
  · obtain ⟨bs, hF⟩ := h.fd i hi
    exact ⟨bs, hF.keep fun j hj => hk j (hF.high j hj).1 (hF.high j hj).2⟩
theorem Row.below {A base : Nat} {k : Int} {ls : List L} {G : Nat} {xs : List Value} {w w' : World} (h : Row A base k ls G xs w) (hb : Below w.heap.size w w') : Row A base k ls G xs w' := h.keep fun j _ hj => hb.block j hj
theorem Row.ch {A B base : Nat} {k : Int} {ls : List L} {G : Nat} {xs : List Value} {w w' : World} (h : Row A base k ls G xs w) (hc : Ch A B w w') (hA : A < base) (hB : B < base) : Row A base k ls G xs w' := h.keep fun j hb hj => hc.block j hj (by omega) (by omega)
theorem FsInv.row {w : World} {A I G : Nat} {m : Ms} {ls : List L} {cap : Nat} {xs : List Value} {w' : World} (h : FsInv w A I G m ls ls.length cap xs w') : Row A w.heap.size m.k ls G xs w' := by
  have hG := own_lt h.own
  refine ⟨fun i j hi hj => ?_, fun i hi => ?_, hG.1, ?_⟩
  · have hx : xs.length = ls.length * 4 := h.own.1
    have := h.own.cells (g := G) rfl (4 * i + j) (xs.getD (4 * i + j) undef) (by rw [List.getD_eq_getElem?_getD, List.getElem?_eq_getElem (by omega)]; rfl)
    rw [Addr.add_lit] at this
    rw [show i * 4 + j = 4 * i + j by omega]
    simpa using this
  · obtain ⟨bs, hF, _⟩ := h.fd i hi hi
    exact ⟨bs, hF⟩
  · obtain ⟨_, h2⟩ := h.own
    rcases h2 with ⟨h2, _⟩ | ⟨g, cap, cur, hv, hg, hb, r⟩
    · cases h2
    · cases hv; exact ⟨cur, hb⟩
theorem Row.kept {A base : Nat} {k : Int} {ls : List L} {G b : Nat} {xs : List Value} {w w' : World} (h : Row A base k ls G xs w) (hk : Lib.OthersKept 5 (some b) w w') (hb : b < base) : Row A base k ls G xs w' := by
  obtain ⟨cs, hc⟩ := h.obj
  have hG : w'.heap[G]? = some (.cells cs 179 (0, 0)) := hk G _ hc (by have := h.lo; simp; omega) (by intro c fz e; simp at e)
  refine ⟨fun i j hi hj => ?_, fun i hi => ?_, h.lo, ⟨cs, hG⟩⟩
  · rw [World.cell?_of_block (hG.trans hc.symm)]; exact h.cell i j hi hj
  · obtain ⟨bs, P, i1, i2, i3, i4, c1, c2, c3, c4, x0, x1, x2, x3, hP, hC⟩ := h.fd i hi
    refine ⟨bs, P, i1, i2, i3, i4, c1, c2, c3, c4, x0, x1, x2, x3, hC.keep _ _ hP fun j hj => ?_, hC⟩
    have hlt := hC.high _ hP j hj
    have ho : w.heap[j]? = some w.heap[j] := Array.getElem?_eq_getElem hlt
    exact (hk j _ ho (by have := hC.low j hj; simp; omega) (hC.typ _ hP j hj _ ho)).trans ho.symm
structure CkI (w : World) (A base : Nat) (ls : List L) (G : Nat) (xs : List Value) (i : Nat) (m mi : Ms) (w' : World) : Prop where
  mg : Mg w' A mi
  k : mi.k = m.k
  rb : mi.rb < 18446744073709551616
  row : Row A base m.k ls G xs w'
  bl : Below w.heap.size w w'
  ck : Wr.chk ls m = Wr.chk (ls.drop i) mi
theorem CkI.up {w : World} {A base : Nat} {ls : List L} {G : Nat} {xs : List Value} {i : Nat} {m mi : Ms} {wr w3 : World} (h : CkI w A base ls G xs i m mi wr) (hb : Below wr.heap.size wr w3) : CkI w A base ls G xs i m mi w3 :=
  ⟨h.mg.block (hb.block A h.mg.lt), h.k, h.rb, h.row.below hb, h.bl.trans (hb.mono h.bl.size), h.ck⟩
theorem Ch.bel {A B k : Nat} {w w3 w4 : World} (h : Below k w w3) (hc : Ch A B w3 w4) (hs : w.heap.size ≤ A) (hB : w.heap.size ≤ B) (hk : k ≤ w.heap.size) : Below k w w4 :=
  ⟨hc.os.trans h.os, hc.tape.trans h.tape, hc.output.trans h.output, Nat.le_trans h.size hc.size, fun j hj => (hc.block j (by have := h.size; omega) (by omega) (by omega)).trans (h.block j hj)⟩
theorem chk_drop {ls : List L} {i : Nat} (hi : i < ls.length) (mi : Ms) : Wr.chk (ls.drop i) mi = (Wr.may mi.k ls[i] (Wr.get ls[i] mi) && Wr.chk (ls.drop (i + 1)) (Wr.set ls[i] Wr.zV mi)) := by
  rw [List.drop_eq_getElem_cons hi]; rfl
theorem set_rb (l : L) (m : Ms) (h : m.rb < 18446744073709551616) : (Wr.set l Wr.zV m).rb < 18446744073709551616 := by
  cases l
  case R => exact (by decide : (0 : Nat) < 18446744073709551616)
  all_goals exact h
theorem alloc_at (wr : World) (o : Obj) : Below wr.heap.size wr (wr.alloc o) := below_alloc wr o
theorem cells4 (wr : World) (v0 v1 v2 v3 : Value) (t : TypeId) {w3 : World} (hb : Below (wr.alloc (.cells #[v0, v1, v2, v3] t)).heap.size (wr.alloc (.cells #[v0, v1, v2, v3] t)) w3) :
    w3.cell? ⟨wr.heap.size, 0, none⟩ = some v0 ∧ w3.cell? ⟨wr.heap.size, 1, none⟩ = some v1 ∧ w3.cell? ⟨wr.heap.size, 2, none⟩ = some v2 ∧ w3.cell? ⟨wr.heap.size, 3, none⟩ = some v3 := by
  have h := (hb.block wr.heap.size (by simp)).trans (heap_alloc_new wr _)
  refine ⟨?_, ?_, ?_, ?_⟩ <;> simp [World.cell?, h]
theorem tx_empty (t : ByteArray) : t.toList.isEmpty = decide (t.size = 0) := by
  rw [ByteArray.toList_eq, Wr.size_list]; cases t.data.toList <;> rfl
theorem Mg.all {w : World} {A : Nat} {m : Ms} (h : Mg w A m) : ∀ j v, (msgC m)[j]? = some v → w.cell? ⟨A, j, none⟩ = some v := by
  intro j v hv; unfold Mg at h; simp [World.cell?, h, hv]
set_option maxRecDepth 8000 in
set_option maxHeartbeats 2000000 in
theorem check_any (m : Ms) (hrb : m.rb < 18446744073709551616) (w : World) : Calls Tryz.prog 103 #[.agg (msgC m)] w fun e w' => e = .returned (.int .i64 (Wr.check m : Int)) ∧ Below w.heap.size w w' := by
  unfold Wr.check
  by_cases hk : m.k < 1 ∨ 16 < m.k
  · rw [if_pos hk]
    unfold msgC
    rcases hk with hk | hk
    · have b1 : decide (m.k < 1) = true := decide_eq_true hk
      go_enter Tryz.func103, Tryz.ntmps103
      go_wp2
      go_ret
      exact ⟨rfl, below_alloc _ _⟩
    · have b1 : decide (m.k < 1) = false := decide_eq_false (by omega)
      have b2 : decide (m.k > 16) = true := decide_eq_true hk
      go_enter Tryz.func103, Tryz.ntmps103
      go_wp2
      go_ret
      exact ⟨rfl, below_alloc _ _⟩
  · rw [if_neg hk]
    have b1 : decide (m.k < 1) = false := decide_eq_false (by omega)
    have b2 : decide (m.k > 16) = false := decide_eq_false (by omega)
    by_cases h6 : m.k = 6 ∧ m.ix = 0 ∧ m.tx.size ≠ 0
    · rw [if_pos h6]
      obtain ⟨k6, i0, t0⟩ := h6
      unfold msgC
      rw [k6, i0]
      have b3 : m.tx.toList.isEmpty = false := by rw [tx_empty]; exact decide_eq_false t0
      go_enter Tryz.func103, Tryz.ntmps103
      go_wp2
      go_ret
      exact ⟨rfl, below_alloc _ _⟩
    · rw [if_neg h6]
      have hcase : ((m.k == 6) = false) ∨ ((m.k == 6) = true ∧ (m.ix == 0) = false) ∨ ((m.k == 6) = true ∧ (m.ix == 0) = true ∧ m.tx.toList.isEmpty = true) := by
        by_cases k6 : m.k = 6
        · by_cases i0 : m.ix = 0
          · refine .inr (.inr ⟨beq_iff_eq.mpr k6, beq_iff_eq.mpr i0, ?_⟩); rw [tx_empty]; apply decide_eq_true; apply Decidable.byContradiction; intro ht; exact h6 ⟨k6, i0, ht⟩
          · exact .inr (.inl ⟨beq_iff_eq.mpr k6, beq_false_of_ne i0⟩)
        · exact .inl (beq_false_of_ne k6)
      have HM : Hid (Mg (w.alloc (.cells (msgC m) 67)) w.heap.size m) := heap_alloc_new w _
      have HFs := hide (fieldsOf_any HM.out (by omega) (by omega))
      generalize hls : Wr.letters m.k = ls at *
      have hlen : ls.length ≤ 5 := by subst hls; exact letters_five _
      have hal : ∀ (W : World) ob, (W.alloc ob).heap.size = W.heap.size + 1 := fun W ob => by simp
      clear h6
      have HRB := hide hrb
      generalize hE : (if Wr.chk ls m = true then (0 : Nat) else 71) = E at *
      have HE := hide hE
      clear hE
      unfold msgC at HFs ⊢
      rcases hcase with b3 | ⟨b3, b4⟩ | ⟨b3, b4, b5⟩
      all_goals
        go_enter Tryz.func103, Tryz.ntmps103
        go_wp2_with fail
        refine HFs.out.mono ?_
        rintro e w2 ⟨G, cap, xs, I, rfl, hF⟩
        have hst : CkI w w.heap.size (w.heap.size + 1) ls G xs 0 m m w2 := by
          have hr := hF.row
          rw [hal] at hr
          have hb := hF.bl
          rw [hal] at hb
          exact ⟨hF.mg, rfl, hrb, hr, (below_alloc w _).trans (hb.mono (by omega)), by rw [List.drop_zero]⟩
        have HST := hide hst
        clear hF hst
        go_wp2
        go_loopw [28] (fun u wr => ∃ (i : Nat) (mi : Ms), u = .int .i64 (i : Int) ∧ i ≤ ls.length ∧ Hid (CkI w w.heap.size (w.heap.size + 1) ls G xs i m mi wr)) (fun u _ => ls.length - (intOf u).toNat)
        case atStart => exact ⟨0, m, rfl, Nat.zero_le _, HST.out⟩
        case round =>
          obtain ⟨i, mi, rfl, hi, HI⟩ := hrel
          by_cases hil : i < ls.length
          · have d0 : decide ((i : Int) < (ls.length : Int)) = true := by simp; omega
            obtain ⟨bs, P, i1, i2, i3, i4, c1, c2, c3, c4, x0, x1, x2, x3, hP, hC⟩ := HI.out.row.fd i hil
            have q0 := HI.out.row.cell i 0 hil (by decide)
            have q1 := HI.out.row.cell i 1 hil (by decide)
            have q2 := HI.out.row.cell i 2 hil (by decide)
            have q3 := HI.out.row.cell i 3 hil (by decide)
            rw [Nat.add_zero, Nat.add_zero, x0] at q0
            rw [x1] at q1
            rw [x2] at q2
            rw [x3] at q3
            have e1 := hC.e1
            have e2 := hC.e2
            have HC := hide hC
            clear x0 x1 x2 x3 hC
            have hba := below_alloc wr (.cells #[.func (.func i1) #[] c1, .func (.func i2) #[] c2, .func (.func i3) #[] c3, .func (.func i4) #[] c4] 179)
            have HIa := hide (HI.out.up hba)
            have HPa := hide (HC.out.keep _ _ hP (fun j hj => hba.block j (HC.out.high _ hP j hj)))
            clear hP hba
            go_wp2_with fail
            refine (HC.out.may _ mi HPa.out HIa.out.mg HIa.out.k HIa.out.rb).mono ?_
            rintro e w3 ⟨rfl, hb3⟩
            have hf := (cells4 _ _ _ _ _ _ hb3).2.1
            have HI3 := hide (HIa.out.up hb3)
            have HP3 := hide (HC.out.keep _ _ HPa.out (fun j hj => hb3.block j (HC.out.high _ HPa.out j hj)))
            have HCK := hide (HI.out.ck.trans (chk_drop hil mi))
            clear hb3
            cases hy : Wr.may m.k ls[i] (Wr.get ls[i] mi)
            · have hfin : Wr.chk ls m = false := by rw [HCK.out, HI.out.k, hy, Bool.false_and]
              go_wp2
              go_ret
              exact ⟨by rw [← HE.out, hfin]; rfl, HI3.out.bl⟩
            · go_wp2_with fail
              refine (HC.out.clr _ mi HP3.out HI3.out.mg).mono ?_
              rintro e w4 ⟨rfl, hm4, hc4⟩
              have HN : Hid (CkI w w.heap.size (w.heap.size + 1) ls G xs (i + 1) m (Wr.set ls[i] Wr.zV mi) w4) :=
                ⟨hm4, by rw [Wr.k_set]; exact HI.out.k, set_rb _ _ HI.out.rb, HI3.out.row.ch hc4 (by omega) (by omega), Ch.bel HI3.out.bl hc4 (by omega) (by omega) (by omega), by rw [HCK.out, HI.out.k, hy, Bool.true_and]⟩
              clear hm4 hc4
              go_wp2
              exact ⟨⟨i + 1, _, by go_num, by omega, HN.out⟩, by simp [intOf]; omega⟩
          · have d0 : decide ((i : Int) < (ls.length : Int)) = false := by simp; omega
            obtain rfl : i = ls.length := by omega
            have hck := HI.out.ck
            rw [List.drop_length] at hck
            have HCK := hide hck
            have hkk := HI.out.k
            have HK := hide hkk
            have r0 : wr.cell? ⟨w.heap.size, 0, none⟩ = some (.int .i64 mi.k) := HI.out.mg.all 0 _ rfl
            have r1 : wr.cell? ⟨w.heap.size, 1, none⟩ = some (.int .i64 mi.se) := HI.out.mg.all 1 _ rfl
            have r2 : wr.cell? ⟨w.heap.size, 2, none⟩ = some (.int .i64 mi.nu) := HI.out.mg.all 2 _ rfl
            have r3 : wr.cell? ⟨w.heap.size, 3, none⟩ = some (.int .i64 mi.jo) := HI.out.mg.all 3 _ rfl
            have r4 : wr.cell? ⟨w.heap.size, 4, none⟩ = some (.int .i64 mi.ba) := HI.out.mg.all 4 _ rfl
            have r5 : wr.cell? ⟨w.heap.size, 5, none⟩ = some (.int .i64 mi.ix) := HI.out.mg.all 5 _ rfl
            have r6 : wr.cell? ⟨w.heap.size, 6, none⟩ = some (.int .i64 mi.co) := HI.out.mg.all 6 _ rfl
            have r7 : wr.cell? ⟨w.heap.size, 7, none⟩ = some (.int .i64 mi.rc) := HI.out.mg.all 7 _ rfl
            have r8 : wr.cell? ⟨w.heap.size, 8, none⟩ = some (.int .u64 (mi.rb : Int)) := HI.out.mg.all 8 _ rfl
            have r9 : wr.cell? ⟨w.heap.size, 9, none⟩ = some (.string mi.tx) := HI.out.mg.all 9 _ rfl
            have r10 : wr.cell? ⟨w.heap.size, 10, none⟩ = some (.string mi.pr) := HI.out.mg.all 10 _ rfl
            have hq : ∀ w, (binOp .neq 67 (.agg #[.int .i64 mi.k, .int .i64 mi.se, .int .i64 mi.nu, .int .i64 mi.jo, .int .i64 mi.ba, .int .i64 mi.ix, .int .i64 mi.co, .int .i64 mi.rc, .int .u64 (mi.rb : Int), .string mi.tx, .string mi.pr]) (.agg #[.int .i64 mi.k, .int .i64 0, .int .i64 0, .int .i64 0, .int .i64 0, .int .i64 0, .int .i64 0, .int .i64 0, .int .u64 0, .string ⟨#[]⟩, .string ⟨#[]⟩])).run Tryz.prog w = .ok (.bool (!decide (mi = Wr.zM mi.k))) w := neq_msg mi (Wr.zM mi.k)
            clear hck hkk
            cases hz : decide (mi = Wr.zM mi.k)
            · have hfin : Wr.chk ls m = false := by rw [HCK.out]; exact hz
              rw [hz] at hq
              go_wp2
              go_ret
              exact ⟨by rw [← HE.out, hfin]; rfl, HI.out.bl⟩
            · have hfin : Wr.chk ls m = true := by rw [HCK.out]; exact hz
              rw [hz] at hq
              go_wp2
              go_ret
              exact ⟨by rw [← HE.out, hfin]; rfl, HI.out.bl⟩
end Go.Proofs.YtkfnedhllfdghaaGreatDoor.W
end

section
namespace Go.Proofs.YtkfnedhllfdghaaGreatDoor.W
set_option maxRecDepth 20000
open Go.RowKit Go.Shelf

/-- the names of a builder's parts in this program -/
def bldRen : Ren := ⟨fun | 166 => 129 | 240 => 158 | 276 => 190 | n => n, fun | 0 => 0 | 3 => 3 | 4 => 4 | 9 => 9 | 20 => 20 | 37 => 212 | 70 => 211 | 72 => 214 | 75 => 216 | 164 => 266 | 5 => 5 | 80 => 176 | n => n, fun | n => n⟩
theorem bldLays : Go.Proofs.Lays.n166 Tryz.prog bldRen := {
  mixed := by kernel_rfl
  f166 := Tryz.func129.trans (congrArg some (by kernel_rfl))
  f240 := Tryz.func158.trans (congrArg some (by kernel_rfl))
  f276 := Tryz.func190.trans (congrArg some (by kernel_rfl))
  t0 := by kernel_rfl
  a0 := fun _ => by kernel_rfl
  z0 := fun _ => by kernel_rfl
  v0 := fun _ => by kernel_rfl
  t3 := by kernel_rfl
  a3 := fun _ => by kernel_rfl
  z3 := fun _ => by kernel_rfl
  v3 := fun _ => by kernel_rfl
  t4 := by kernel_rfl
  a4 := fun _ => by kernel_rfl
  z4 := fun _ => by kernel_rfl
  v4 := fun _ => by kernel_rfl
  t9 := by kernel_rfl
  a9 := fun _ => by kernel_rfl
  z9 := fun _ => by kernel_rfl
  v9 := fun _ => by kernel_rfl
  t20 := by kernel_rfl
  a20 := fun _ => by kernel_rfl
  z20 := fun _ => by kernel_rfl
  v20 := fun _ => by kernel_rfl
  t37 := by kernel_rfl
  a37 := fun _ => by kernel_rfl
  z37 := fun _ => by kernel_rfl
  v37 := fun _ => by kernel_rfl
  t70 := by kernel_rfl
  a70 := fun _ => by kernel_rfl
  z70 := fun _ => by kernel_rfl
  v70 := fun _ => by kernel_rfl
  t72 := by kernel_rfl
  a72 := fun _ => by kernel_rfl
  z72 := fun _ => by kernel_rfl
  v72 := fun _ => by kernel_rfl
  t75 := by kernel_rfl
  a75 := fun _ => by kernel_rfl
  z75 := fun _ => by kernel_rfl
  v75 := fun _ => by kernel_rfl
  t164 := by kernel_rfl
  a164 := fun _ => by kernel_rfl
  z164 := fun _ => by kernel_rfl
  v164 := fun _ => by kernel_rfl }
theorem bldExtra : Builder.Extra Tryz.prog bldRen := {
  sizeBuilder := by kernel_rfl
  liesBuilder := by kernel_rfl
  t5 := by kernel_rfl
  a5 := fun _ => by kernel_rfl
  z5 := fun _ => by kernel_rfl
  v5 := fun _ => by kernel_rfl
  infoByte := by kernel_rfl
  cellsByte := by kernel_rfl
  sizeByte := by kernel_rfl
  neB5 := by decide }
theorem writeString_k (B b : Nat) (bs : List Value) (s : ByteArray) (w : World) (h : Lib.IsBuilderF 214 5 B b bs w) (hlen : bs.length + s.size ≤ 140737488355328) (hBw : B ≤ w.heap.size) :
    Calls Tryz.prog 129 #[.pointer (some ⟨b, 0, none⟩), .string s] w fun e w' => e = .returned (.tuple #[.int .i64 s.size, .nilIface]) ∧ (Lib.BuilderAtF 214 5 B b (.pointer (some ⟨b, 0, none⟩)) (bs ++ Lib.strCells s) w' ∧ Below B w w' ∧ Lib.OthersKept 5 (some b) w w') :=
  Any.Builder_WriteString_k bldLays bldExtra B b bs s w h hlen hBw
theorem ownsRowF_below {w w' : World} {base e size n m : Nat} {v : Value} {xs : List Value} (h : w.ownsRowF base e size v n xs) (hb : Below m w w') (hm : w.heap.size ≤ m) : w'.ownsRowF base e size v n xs := by
  refine ⟨h.1, ?_⟩
  rcases h.2 with hn | ⟨g, cap, cur, fz, hv, hbg, hg, rest⟩
  · exact .inl hn
  · exact .inr ⟨g, cap, cur, fz, hv, hbg, (hb.block g (Nat.lt_of_lt_of_le (lt_of_block hg) hm)).trans hg, rest⟩
theorem builder_below {T e B b m : Nat} {bs : List Value} {w w' : World} (h : Lib.IsBuilderF T e B b bs w) (hb : Below m w w') (hm : w.heap.size ≤ m) : Lib.IsBuilderF T e B b bs w' := by
  rcases h with ⟨hB, v, hv, hown, hne⟩ | ⟨hB, v, hv, hown, hne⟩
  · exact .inl ⟨hB, v, (hb.block b (Nat.lt_of_lt_of_le (lt_of_block hv) hm)).trans hv, ownsRowF_below hown hb hm, hne⟩
  · exact .inr ⟨hB, v, (hb.block b (Nat.lt_of_lt_of_le (lt_of_block hv) hm)).trans hv, ownsRowF_below hown hb hm, hne⟩
theorem builder_lt {T e B b : Nat} {bs : List Value} {w : World} (h : Lib.IsBuilderF T e B b bs w) : b < w.heap.size := by
  rcases h with ⟨_, v, hv, _⟩ | ⟨_, v, hv, _⟩ <;> exact lt_of_block hv
end Go.Proofs.YtkfnedhllfdghaaGreatDoor.W
end
