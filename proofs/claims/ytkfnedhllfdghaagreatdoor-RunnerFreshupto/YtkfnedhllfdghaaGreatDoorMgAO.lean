import Derived.Test.YtkfnedhllfdghaaGreatDoorMgAD
import Derived.Test.YtkfnedhllfdghaaGreatDoorMgAE
import Derived.Shelf.SlicesQ.IndexFunc
import Derived.Lib.OthersKept
import Derived.Laws.ResultCell

section
namespace Go.Proofs.YtkfnedhllfdghaaGreatDoor
set_option maxRecDepth 20000
open Go.RowKit

theorem un_cast (i : Int) : ((Pg.un i : Nat) : Int) = i % 18446744073709551616 := by unfold Pg.un; omega
theorem un_lt (i : Int) : Pg.un i < 18446744073709551616 := by unfold Pg.un; omega
theorem un_wrap (i : Int) : IntKind.u64.wrap i = (Pg.un i : Int) := by rw [un_cast]; rfl
theorem below_one (w : World) (o : Obj) : Below w.heap.size w (w.alloc o) := (Below.refl _ _).alloc (Nat.le_refl _) _
set_option maxHeartbeats 1000000 in
theorem get_any (x : In) (l : Nat) (w : World) :
    Calls Tryz.prog 282 #[.agg #[.int .i64 x.op, .int .i64 x.a, .int .i64 x.b, .int .i64 x.c, .int .i64 x.n, .int .u64 (x.k : Int)], .int .i32 (l : Int)] w fun e w' => e = .returned (.int .u64 (Pg.get x l : Int)) ∧ Below w.heap.size w w' := by
  unfold Pg.get
  by_cases h1 : l = 65
  · subst h1
    go_enter Tryz.func282, Tryz.ntmps282
    go_wp2
    go_ret
    exact ⟨by rw [← un_wrap]; rfl, below_one _ _⟩
  have b1 : ((l : Int) == 65) = false := by simp; omega
  rw [if_neg h1]
  by_cases h2 : l = 66
  · subst h2
    go_enter Tryz.func282, Tryz.ntmps282
    go_wp2
    go_ret
    exact ⟨by rw [← un_wrap]; rfl, below_one _ _⟩
  have b2 : ((l : Int) == 66) = false := by simp; omega
  rw [if_neg h2]
  by_cases h3 : l = 67
  · subst h3
    go_enter Tryz.func282, Tryz.ntmps282
    go_wp2
    go_ret
    exact ⟨by rw [← un_wrap]; rfl, below_one _ _⟩
  have b3 : ((l : Int) == 67) = false := by simp; omega
  rw [if_neg h3]
  by_cases h4 : l = 78
  · subst h4
    go_enter Tryz.func282, Tryz.ntmps282
    go_wp2
    go_ret
    exact ⟨by rw [← un_wrap]; rfl, below_one _ _⟩
  have b4 : ((l : Int) == 78) = false := by simp; omega
  rw [if_neg h4]
  go_enter Tryz.func282, Tryz.ntmps282
  go_wp2
  go_ret
  exact ⟨rfl, below_one _ _⟩

/-- the table's cells -/
def tblC : List Value := Pg.tbl.flatMap Sh.cs
set_option maxRecDepth 20000 in
set_option maxHeartbeats 4000000 in
theorem shapes_any (w : World) : Calls Tryz.prog 293 #[] w fun e w' => e = .returned (.slice (some ⟨w.heap.size, 0, none⟩) 24 24) ∧ w' = w.alloc (.cells tblC.toArray 284) := by
  go_enter Tryz.func293, Tryz.ntmps293
  go_wp2
  go_ret
  exact ⟨rfl, rfl⟩
end Go.Proofs.YtkfnedhllfdghaaGreatDoor
end

section
namespace Go.Proofs.YtkfnedhllfdghaaGreatDoor
set_option maxRecDepth 20000
open Go.RowKit Go.Shelf
theorem hide {p : Prop} (h : p) : Hid p := h

/-- the names of slices.IndexFunc's parts in this program -/
def idxRen : Ren := ⟨fun _ => 294, fun n => if n = 0 then 0 else if n = 3 then 3 else if n = 4 then 4 else if n = 22 then 304 else if n = 25 then 295 else 284, fun _ => 0⟩
def idxName : String := "slices.IndexFunc[[]gaffer/prog.shape,gaffer/prog.shape]"
theorem idxLays : SlLaysH0.n6 Tryz.prog idxRen := ⟨by kernel_rfl, Exists.intro idxName (And.intro (by kernel_rfl) (by kernel_rfl)), by kernel_rfl, fun _ => by kernel_rfl, fun _ => by kernel_rfl, fun _ => by kernel_rfl, by kernel_rfl, fun _ => by kernel_rfl, fun _ => by kernel_rfl, fun _ => by kernel_rfl, by kernel_rfl, fun _ => by kernel_rfl, fun _ => by kernel_rfl, fun _ => by kernel_rfl, by kernel_rfl, fun _ => by kernel_rfl, fun _ => by kernel_rfl, fun _ => by kernel_rfl, by kernel_rfl, fun _ => by kernel_rfl, fun _ => by kernel_rfl, fun _ => by kernel_rfl⟩

theorem tbl_cell (w : World) : ∀ j, j < Pg.tbl.length → ∀ i v, (Pg.tbl[j]!).cs[i]? = some v → (w.alloc (.cells tblC.toArray 284)).cell? ⟨w.heap.size, 0 + j * 3 + i, none⟩ = some v := by
  intro j hj i v hi
  rw [World.cell?_alloc_at _ _ _ _ rfl]
  have hi3 : i < 3 := (List.getElem?_eq_some_iff.1 hi).1
  rw [← flat_get Sh.cs 3 (fun _ => rfl) Pg.tbl j i hj hi3] at hi
  show tblC.toArray[0 + j * 3 + i]? = some v
  rw [Nat.zero_add, List.getElem?_toArray]
  exact hi

set_option maxHeartbeats 1000000 in
theorem shapeFits1 (B : Nat) (op : Int) (w : World) (hB : B < w.heap.size) (hc0 : w.cell? ⟨B, 0, none⟩ = some (.int .i64 op)) :
    PredBelow Tryz.prog 280 #[.pointer (some ⟨B, 0, none⟩)] (fun x : Sh => .agg x.cs.toArray) (fun x => x.op == op) w := fun W x hb => by
  have hc : W.cell? ⟨B, 0, none⟩ = some (.int .i64 op) := (hb.cell (p := ⟨B, 0, none⟩) hB).trans hc0
  have hBW : B < W.heap.size := Nat.lt_of_lt_of_le hB hb.size
  have hne : B ≠ W.heap.size := by omega
  show Calls Tryz.prog 280 #[.agg #[.int .i64 x.op, .string x.word, .string x.flds], .pointer (some ⟨B, 0, none⟩)] W _
  go_enter Tryz.func280, Tryz.ntmps280
  go_wp2
  go_ret
  exact ⟨rfl, hb.alloc hb.size _⟩
theorem idx_find (p : Sh → Bool) : ∀ (l : List Sh) (i : Nat), Lib.idxByFrom (fun _ y => p y) default l i = match l.findIdx? p with | some k => ((i + k : Nat) : Int) | none => -1
  | [], _ => rfl
  | y :: r, i => by
    unfold Lib.idxByFrom
    rw [List.findIdx?_cons]
    by_cases h : p y = true
    · simp [h]
    · simp only [h, Bool.false_eq_true, if_false]
      rw [idx_find p r (i + 1)]
      cases h2 : r.findIdx? p with
      | none => simp
      | some k => show ((i + 1 + k : Nat) : Int) = ((i + (k + 1) : Nat) : Int); congr 1; omega

theorem find_fst (p : Sh → Bool) : (Pg.find p).2 = true ∨ (Pg.find p) = (default, false) := by
  unfold Pg.find; cases Pg.tbl.findIdx? p <;> simp
theorem eg1 : ∀ args w, (callFunc 280 args).run Tryz.prog w = .ok (.enter 280 args) w := enters_of Tryz.func280 (by kernel_rfl) rfl
theorem idx_hid (p : Sh → Bool) (g B : Nat) (w : World) (eg : ∀ args w, (callFunc g args).run Tryz.prog w = .ok (.enter g args) w)
    (hp : ∀ W, Below w.heap.size w W → PredBelow Tryz.prog g #[.pointer (some ⟨B, 0, none⟩)] (fun x : Sh => .agg x.cs.toArray) p W) :
    Calls Tryz.prog 294 #[.slice (some ⟨w.heap.size, 0, none⟩) 24 24, .func (.func g) #[] #[.pointer (some ⟨B, 0, none⟩)]] (w.alloc (.cells tblC.toArray 284)) fun e w' => e = .returned (.int .i64 (match Pg.tbl.findIdx? p with | some k => (k : Int) | none => -1)) ∧ Below (w.heap.size + 1) (w.alloc (.cells tblC.toArray 284)) w' := by
  have h := AnyQ.slices_IndexFunc idxLays 3 (fun _ => by kernel_rfl) (fun _ => by kernel_rfl) Sh.cs (fun _ => rfl) p g #[.pointer (some ⟨B, 0, none⟩)] eg w.heap.size 0 24 24 Pg.tbl (w.alloc (.cells tblC.toArray 284))
      (hp _ (below_one w _)) (Nat.le_refl 24) (by decide) (by simp) (tbl_cell w)
  rw [World.size_alloc] at h
  refine h.mono fun e w' h => ⟨?_, h.2⟩
  rw [h.1, Lib.idxBy, show Pg.tbl.take 24 = Pg.tbl from rfl, idx_find]
  cases Pg.tbl.findIdx? p with
  | none => rfl
  | some k => show Ending.returned (Value.int .i64 ((0 + k : Nat) : Int)) = _; rw [Nat.zero_add]
theorem two_X' (w : World) (v : Value) (t : TypeId) (o : Obj) : ((w.alloc (.cells #[v] t)).alloc o).cell? ⟨w.heap.size, 0, none⟩ = some v := by
  rw [World.cell?_alloc_past _ _ _ (by simp), World.cell?_alloc_at _ _ _ _ rfl]; rfl
theorem three_of {w : World} {B T : Nat} {a b c : Value} (h : w.heap[B]? = some (.cells #[a, b, c] T (0, 0))) :
    (w.cell? ⟨B, 0, none⟩ = some a ∧ w.cell? ⟨B, 1, none⟩ = some b ∧ w.cell? ⟨B, 2, none⟩ = some c) ∧ ∀ k, w.frozen? ⟨B, k, none⟩ = false :=
  ⟨⟨by simp [World.cell?, h], by simp [World.cell?, h], by simp [World.cell?, h]⟩, fun k => by simp [World.frozen?, h]⟩
/-- where a shape that is answered is laid -/
def zSh : Obj := (.cells #[.int .i64 0, .string ⟨#[]⟩, .string ⟨#[]⟩] 284)
theorem zsh_kept {w : World} {w2 : World} {n : Nat} (hb : Below n (w.alloc (.cells #[.int .i64 0, .string ⟨#[]⟩, .string ⟨#[]⟩] 284)) w2) (hn : w.heap.size < n) : w2.heap[w.heap.size]? = some (.cells #[.int .i64 0, .string ⟨#[]⟩, .string ⟨#[]⟩] 284 (0, 0)) :=
  (hb.block w.heap.size hn).trans (heap_alloc_new w _)
set_option maxHeartbeats 2000000 in
theorem findShape_any (p : Sh → Bool) (g B : Nat) (w : World) (eg : ∀ args w, (callFunc g args).run Tryz.prog w = .ok (.enter g args) w)
    (hp : ∀ W, Below w.heap.size w W → PredBelow Tryz.prog g #[.pointer (some ⟨B, 0, none⟩)] (fun x : Sh => .agg x.cs.toArray) p W) :
    Calls Tryz.prog 279 #[.func (.func g) #[] #[.pointer (some ⟨B, 0, none⟩)]] w fun e w' =>
      e = .returned (.tuple #[.agg #[.int .i64 (Pg.find p).1.op, .string (Pg.find p).1.word, .string (Pg.find p).1.flds], .bool (Pg.find p).2]) ∧ Below w.heap.size w w' := by
  have HI := hide (idx_hid p g B (w.alloc (.cells #[.int .i64 0, .string ⟨#[]⟩, .string ⟨#[]⟩] 284)) eg (fun W hW => hp W ((below_one w _).trans (hW.mono (by simp)))))
  rw [World.size_alloc] at HI
  clear hp
  unfold Pg.find
  cases hk : Pg.tbl.findIdx? p with
  | none =>
    simp only [hk] at HI
    go_enter Tryz.func279, Tryz.ntmps279
    go_wp2_with fail
    refine (shapes_any _).mono ?_
    rintro e w1 ⟨rfl, rfl⟩
    simp only [World.size_alloc]
    go_wp2_with fail
    refine HI.out.mono ?_
    rintro e w2 ⟨rfl, hb⟩
    have hb' : Below (w.heap.size + 1) (w.alloc (.cells #[.int .i64 0, .string ⟨#[]⟩, .string ⟨#[]⟩] 284)) w2 := ((Below.refl _ _).alloc (by simp) _).trans (hb.mono (by omega))
    obtain ⟨⟨x0, x1, x2⟩, xz⟩ := three_of (zsh_kept hb' (by omega))
    have HB : Hid (Below w.heap.size w w2) := (below_one w _).trans (hb'.mono (by omega))
    clear hb hb'
    go_wp2
    refine bodyPost_ret (by rw [results_cell_tmp rfl]; go_simp; rfl) rfl ?_
    exact ⟨rfl, by first | exact HB.out | exact HB.out.setCell (by simp) _ | exact ((HB.out.setCell (by simp) _).setCell (by simp) _).setCell (by simp) _⟩
  | some k =>
    simp only [hk] at HI
    have hk24 : k < 24 := (List.findIdx?_eq_some_iff_getElem.1 hk).1
    go_enter Tryz.func279, Tryz.ntmps279
    go_wp2_with fail
    refine (shapes_any _).mono ?_
    rintro e w1 ⟨rfl, rfl⟩
    simp only [World.size_alloc]
    go_wp2_with fail
    refine HI.out.mono ?_
    rintro e w2 ⟨rfl, hb⟩
    have hb' : Below (w.heap.size + 1) (w.alloc (.cells #[.int .i64 0, .string ⟨#[]⟩, .string ⟨#[]⟩] 284)) w2 := ((Below.refl _ _).alloc (by simp) _).trans (hb.mono (by omega))
    obtain ⟨⟨x0, x1, x2⟩, xz⟩ := three_of (zsh_kept hb' (by omega))
    have HB : Hid (Below w.heap.size w w2) := (below_one w _).trans (hb'.mono (by omega))
    have hc : ∀ i v, (Pg.tbl[k]!).cs[i]? = some v → w2.cell? ⟨w.heap.size + 1, k * 3 + i, none⟩ = some v := fun i v hi => by
      have := tbl_cell (w.alloc (.cells #[.int .i64 0, .string ⟨#[]⟩, .string ⟨#[]⟩] 284)) k hk24 i v hi
      rw [Nat.zero_add, World.size_alloc] at this
      exact (hb.cell (p := ⟨w.heap.size + 1, k * 3 + i, none⟩) (by show w.heap.size + 1 < w.heap.size + 1 + 1; omega)).trans this
    have c0 := hc 0 _ rfl
    have c1 := hc 1 _ rfl
    have c2 := hc 2 _ rfl
    simp only [Nat.add_zero] at c0
    have hge : decide ((k : Int) < 0) = false := by simp
    have hkl : (k : Int) < 24 := by omega
    obtain ⟨sh, hsh⟩ : ∃ s, Pg.tbl[k]! = s := ⟨_, rfl⟩
    rw [hsh] at c0 c1 c2
    have HS := hide hsh
    clear hsh
    clear hc hb hk hb'
    go_wp2
    refine bodyPost_ret (by rw [results_cell_tmp rfl]; go_simp; rfl) rfl ?_
    exact ⟨by rw [HS.out], ((HB.out.setCell (by simp) _).setCell (by simp) _).setCell (by simp) _⟩
set_option maxHeartbeats 1000000 in
theorem shapeOf_any (op : Int) (w : World) : Calls Tryz.prog 259 #[.int .i64 op] w fun e w' =>
      e = .returned (.tuple #[.agg #[.int .i64 (Pg.shape op).1.op, .string (Pg.shape op).1.word, .string (Pg.shape op).1.flds], .bool (Pg.shape op).2]) ∧ Below w.heap.size w w' := by
  have HF := hide (findShape_any (fun s => s.op == op) 280 w.heap.size ((w.alloc (.cells #[.int .i64 op] 3)).alloc (.cells #[.int .i64 0, .string ⟨#[]⟩, .string ⟨#[]⟩] 284)) eg1 (fun W hW => shapeFits1 w.heap.size op W (Nat.lt_of_lt_of_le (by simp; omega) hW.size) ((hW.cell (by simp; omega)).trans (two_X' w _ _ _))))
  unfold Pg.shape
  generalize Pg.find (fun s => s.op == op) = r at *
  have hmf : ∀ (fn : Fn) (first cap : Array Value) (w : World), (Instr.makeFunc fn first cap).run Tryz.prog w = .ok (.func fn first cap) w := fun _ _ _ _ => rfl
  go_enter Tryz.func259, Tryz.ntmps259
  go_wp2_with fail
  refine HF.out.mono ?_
  rintro e w2 ⟨rfl, hb⟩
  obtain ⟨⟨x0, x1, x2⟩, xz⟩ := three_of (zsh_kept hb (by simp))
  rw [World.size_alloc] at x0 x1 x2 xz
  have HB : Hid (Below w.heap.size w w2) := ((below_one w _).trans ((below_one _ _).mono (by simp))).trans (hb.mono (by simp; omega))
  clear hb
  go_wp2
  refine bodyPost_ret (by rw [results_cell_tmp rfl]; go_simp; rfl) rfl ?_
  exact ⟨rfl, ((HB.out.setCell (by simp) _).setCell (by simp) _).setCell (by simp) _⟩
end Go.Proofs.YtkfnedhllfdghaaGreatDoor
end
