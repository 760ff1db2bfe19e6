import Derived.Test.YtlgcimfbhjidgaaMgAK
import Derived.Laws.EntriesVeiled
import Derived.Laws.ResultCell
import Derived.Laws.Rows
import Derived.Deep.RegionHeld3
import Derived.Test.YtlgcimfbhjidgaaMgAC

section
namespace Go.Proofs.Ytlgcimfbhjidgaa
open Go.RowKit

/-- a block of one cell -/
def Bx (w : World) (X : Nat) (v : Value) (t : TypeId) : Prop := w.heap[X]? = some (.cells #[v] t (0, 0))
theorem Bx.c {w : World} {X : Nat} {v : Value} {t : TypeId} (h : Bx w X v t) : w.cell? ⟨X, 0, none⟩ = some v := by unfold Bx at h; simp [World.cell?, h]
/-- the boxes of a whole number's field -/
structure W3 (w : World) (X : Nat) (at_ : Addr) (lo hi : Int) : Prop where
  a : Bx w X (.pointer (some at_)) 72
  l : Bx w (X + 1) (.int .i64 lo) 3
  h : Bx w (X + 2) (.int .i64 hi) 3
structure T3 (w : World) (X : Nat) (at_ : Addr) (lo hi : Int) : Prop where
  a : Bx w X (.pointer (some at_)) 74
  l : Bx w (X + 1) (.int .i64 lo) 3
  h : Bx w (X + 2) (.int .i64 hi) 3
def p0 (X : Nat) : Value := .pointer (some ⟨X, 0, none⟩)
theorem hmf : ∀ (fn : Fn) (first cap : Array Value) (w : World), (Instr.makeFunc fn first cap).run Try.prog w = .ok (.func fn first cap) w := fun _ _ _ _ => rfl

theorem cells_set {w : World} {B : Nat} {cs : Array Value} {t : TypeId} (h : w.heap[B]? = some (.cells cs t (0, 0))) (k : Nat) (u : Value) : (w.setCell ⟨B, k, none⟩ u).heap[B]? = some (.cells (cs.setIfInBounds k u) t (0, 0)) := by
  have hlt := lt_of_block h
  have h' : w.heap[B] = .cells cs t (0, 0) := by simpa [Array.getElem?_eq_getElem hlt] using h
  show (w.heap.modify B _)[B]? = _
  rw [Array.getElem?_eq_getElem (by simpa using hlt), Array.getElem_modify_self, h']
  rfl
theorem four_blocks (w : World) (o1 o2 o3 o4 : Obj) : ((((w.alloc o1).alloc o2).alloc o3).alloc o4).heap[w.heap.size]? = some o1 ∧ ((((w.alloc o1).alloc o2).alloc o3).alloc o4).heap[w.heap.size + 1]? = some o2 ∧
    ((((w.alloc o1).alloc o2).alloc o3).alloc o4).heap[w.heap.size + 2]? = some o3 ∧ ((((w.alloc o1).alloc o2).alloc o3).alloc o4).heap[w.heap.size + 3]? = some o4 ∧ Below w.heap.size w ((((w.alloc o1).alloc o2).alloc o3).alloc o4) := by
  refine ⟨?_, ?_, ?_, ?_, ?_⟩
  · rw [Below.heap_alloc _ _ _ (by simp; omega), Below.heap_alloc _ _ _ (by simp; omega), Below.heap_alloc _ _ _ (by simp), heap_alloc_new]
  · rw [Below.heap_alloc _ _ _ (by simp), Below.heap_alloc _ _ _ (by simp)]; simpa using heap_alloc_new (w.alloc o1) o2
  · rw [Below.heap_alloc _ _ _ (by simp)]; simpa using heap_alloc_new ((w.alloc o1).alloc o2) o3
  · simpa using heap_alloc_new (((w.alloc o1).alloc o2).alloc o3) o4
  exact ((((Below.refl _ _).alloc (Nat.le_refl _) _).alloc (by simp) _).alloc (by simp; omega) _).alloc (by simp; omega) _
end Go.Proofs.Ytlgcimfbhjidgaa
end

section
namespace Go.Proofs.Ytlgcimfbhjidgaa
open Go.RowKit

theorem hide {p : Prop} (h : p) : Hid p := h
/-- the reader's calls, however it stands -/
theorem rnumP {w : World} {B p f most : Nat} {b : ByteArray} (h : Rd w B b p f) (hp : p ≤ b.size) (hb : b.size ≤ 140737488351232) :
    Calls Try.prog 31 #[.pointer (some ⟨B, 0, none⟩), .int .u64 (most : Int)] w fun e w' => e = .returned (.int .u64 ((Wr.rdN b most p f).1 : Int)) ∧ Rd w' B b ((Wr.rdN b most p f).2.1 : Int) ((Wr.rdN b most p f).2.2 : Int) ∧ w.grownBy w' (some B) := by
  by_cases hf : f = 0
  · subst hf
    refine (rnum_any (most := most) h hp hb).mono ?_
    intro e w' hF
    by_cases hk : numK b p most 21 = 0
    · obtain ⟨e1, e2⟩ := hF.ok hk
      unfold Wr.rdN; rw [if_neg (by simp), if_pos hk]; exact ⟨e1, e2, hF.grown⟩
    · obtain ⟨e1, e2⟩ := hF.no hk
      unfold Wr.rdN; rw [if_neg (by simp), if_neg hk]; exact ⟨e1, e2, hF.grown⟩
  · refine (rnum_dead (most := most) h (by omega)).mono ?_
    rintro e w' ⟨e1, hbl⟩
    rw [Wr.rdN_dead hf]; exact ⟨e1, h.below hbl h.lt, grown_below hbl _⟩
theorem rnumQ {w : World} {B p f most : Nat} {b : ByteArray} {x : Int} (h : Rd w B b p f) (hp : p ≤ b.size) (hb : b.size ≤ 140737488351232) (hx : x = (most : Int)) :
    Calls Try.prog 31 #[.pointer (some ⟨B, 0, none⟩), .int .u64 x] w fun e w' => e = .returned (.int .u64 ((Wr.rdN b most p f).1 : Int)) ∧ Rd w' B b ((Wr.rdN b most p f).2.1 : Int) ((Wr.rdN b most p f).2.2 : Int) ∧ w.grownBy w' (some B) := by
  subst hx; exact rnumP h hp hb
theorem rtextP {w : World} {B p f most : Nat} {b : ByteArray} (h : Rd w B b p f) (hp : p ≤ b.size) (hb : b.size ≤ 140737488351232) (hm : most ≤ 9223372036854775807) :
    Calls Try.prog 71 #[.pointer (some ⟨B, 0, none⟩), .int .i64 (most : Int)] w fun e w' => e = .returned (.string (Wr.rdT b most p f).1) ∧ Rd w' B b ((Wr.rdT b most p f).2.1 : Int) ((Wr.rdT b most p f).2.2 : Int) ∧ w.grownBy w' (some B) := by
  by_cases hf : f = 0
  · subst hf
    refine (rtext_any (most := (most : Int)) (by omega) h hp hb).mono ?_
    rw [show ((most : Int)).toNat = most from rfl]
    intro e w' hF
    by_cases hk : textK b p most = 0
    · obtain ⟨e1, e2⟩ := hF.ok hk
      unfold Wr.rdT; rw [if_neg (by simp), if_pos hk]; exact ⟨e1, e2, hF.grown⟩
    · obtain ⟨e1, e2⟩ := hF.no hk
      unfold Wr.rdT; rw [if_neg (by simp), if_neg hk]; exact ⟨e1, e2, hF.grown⟩
  · refine (rtext_dead (most := (most : Int)) h (by omega)).mono ?_
    rintro e w' ⟨e1, hbl⟩
    rw [Wr.rdT_dead hf]; exact ⟨e1, h.below hbl h.lt, grown_below hbl _⟩
theorem rbitsP {w : World} {B p f : Nat} {b : ByteArray} (h : Rd w B b p f) (hp : p ≤ b.size) (hb : b.size ≤ 140737488351232) :
    Calls Try.prog 69 #[.pointer (some ⟨B, 0, none⟩)] w fun e w' => e = .returned (.int .u64 ((Wr.rdB b p f).1 : Int)) ∧ Rd w' B b ((Wr.rdB b p f).2.1 : Int) ((Wr.rdB b p f).2.2 : Int) ∧ w.grownBy w' (some B) := by
  by_cases hf : f = 0
  · subst hf
    refine (rbits_any h hp hb).mono ?_
    intro e w' hF
    by_cases hk : bitsK b p = 0
    · obtain ⟨e1, e2⟩ := hF.ok hk
      unfold Wr.rdB; rw [if_neg (by simp), if_pos hk]; exact ⟨e1, e2, hF.grown⟩
    · obtain ⟨e1, e2⟩ := hF.no hk
      unfold Wr.rdB; rw [if_neg (by simp), if_neg hk]; exact ⟨e1, e2, hF.grown⟩
  · refine (rbits_dead h (by omega)).mono ?_
    rintro e w' ⟨e1, hbl⟩
    rw [Wr.rdB_dead hf]; exact ⟨e1, h.below hbl h.lt, grown_below hbl _⟩

theorem cell_other {w : World} {a c : Addr} {u v : Value} (h : w.cell? c = some v) (hn : c.block ≠ a.block) : (w.setCell a u).cell? c = some v := by
  unfold World.cell? at h ⊢
  rw [Below.heap_setCell w a u _ hn]; exact h
theorem grown_frozen {w w' : World} {r : Option Nat} (g : w.grownBy w' r) {a : Addr} (h : w.frozen? a = false) (hl : a.block < w.heap.size) (hn : some a.block ≠ r) : w'.frozen? a = false := by
  unfold World.frozen? at h ⊢
  rw [g.block a.block hl hn]; exact h
end Go.Proofs.Ytlgcimfbhjidgaa
end

section
namespace Go.Proofs.Ytlgcimfbhjidgaa
open Go.RowKit
open Rc (L V Ch)

instance : Inhabited Ch := ⟨Rc.zC 0⟩
/-- a change's cells, its texts' slice given -/
def chC (c : Ch) (t : Value) : Array Value := #[.int .i64 c.k, .int .i64 c.n, .int .i64 c.jo, .int .i64 c.ba, .int .i64 c.sl, .int .i64 c.li, .int .i64 c.rc, .int .u64 (c.rb : Int), .string c.pr, t]
def nmL : L → String
  | .P => "gaffer/record.text" | .T => "gaffer/record.texts" | .R => "gaffer/record.result" | _ => "gaffer/record.whole"
def offL : L → Nat
  | .N => 1 | .J => 2 | .B => 3 | .S => 4 | .F => 5 | .R => 6 | .P => 8 | .T => 9
def argL (rv : Value) (A o : Nat) : L → Array Value
  | .R => #[rv, .pointer (some ⟨A, o + 6, none⟩)]
  | .T => #[rv, .pointer (some ⟨A, o + 9, none⟩)]
  | l => #[rv, .pointer (some ⟨A, o + offL l, none⟩), .int .i64 (Rc.least l : Int), .int .i64 (Rc.most l : Int)]
/-- what a visitor comes to, letter by letter -/
def runL {α : Type} (st : L → α → Option α) : List L → α → Option α
  | [], s => some s
  | l :: ls, s => (st l s).bind (runL st ls)
/-- a call's ending: done so, or given up -/
def Vis {α : Type} (Inv : α → World → Prop) (Q : World → Prop) (x : Option α) (e : Ending) (w : World) : Prop :=
  match x with
  | some s => e = .returned (.tuple #[]) ∧ Inv s w
  | none => Gives e 83 ∧ Q w
theorem Vis.cases {α : Type} {Inv : α → World → Prop} {Q : World → Prop} {x : Option α} {e : Ending} {w : World} (h : Vis Inv Q x e w) : (x = none ∧ Gives e 83 ∧ Q w) ∨ ∃ s, x = some s ∧ e = .returned (.tuple #[]) ∧ Inv s w := by
  cases x with
  | none => exact .inl ⟨rfl, h.1, h.2⟩
  | some s => exact .inr ⟨s, rfl, h.1, h.2⟩
theorem Vis.none {α : Type} {Inv : α → World → Prop} {Q : World → Prop} {x : Option α} {e : Ending} {w : World} (hx : x = .none) (he : Gives e 83) (hq : Q w) : Vis Inv Q x e w := by subst hx; exact ⟨he, hq⟩
theorem Vis.some {α : Type} {Inv : α → World → Prop} {Q : World → Prop} {x : Option α} {s : α} {w : World} (hx : x = .some s) (hi : Inv s w) : Vis Inv Q x (.returned (.tuple #[])) w := by subst hx; exact ⟨rfl, hi⟩
/-- what is asked of each letter on the way -/
def okAll {α : Type} (ok : L → α → Prop) (st : L → α → Option α) : List L → α → Prop
  | [], _ => True
  | l :: ls, s => ok l s ∧ ∀ s', st l s = some s' → okAll ok st ls s'
theorem okAll_true {α : Type} (st : L → α → Option α) (ls : List L) : ∀ s, okAll (fun _ _ => True) st ls s := by
  induction ls with
  | nil => intro _; trivial
  | cons l ls ih => intro s; exact ⟨trivial, fun s' _ => ih s'⟩
/-- a visitor -/
structure Visitor {α : Type} (A o : Nat) (k : Int) (T : TypeId) (x rv : Value) (K : L → FuncId) (Inv : α → World → Prop) (Q : World → Prop) (st : L → α → Option α) (ok : L → α → Prop) : Prop where
  kind : ∀ s w, Inv s w → w.cell? ⟨A, o, none⟩ = some (.int .i64 k)
  drew : ∀ s w, Inv s w → Inv s w.drew
  ahead : ∀ l (w : World), (nilAhead 215 T x (nmL l)).run Try.prog w = .ok (some false) w
  meth : ∀ l (w : World), (method 215 T x (nmL l)).run Try.prog w = .ok (K l, rv) w
  run : ∀ l (args : Array Value) (w : World), (callFunc (K l) args).run Try.prog w = .ok (.enter (K l) args) w
  call : ∀ l s w, ok l s → Inv s w → Calls Try.prog (K l) (argL rv A o l) w (Vis Inv Q (st l s))


set_option maxHeartbeats 400000 in
theorem visitBadge_gen {α : Type} {A o : Nat} {k : Int} {T : TypeId} {x rv : Value} {K : L → FuncId} {Inv : α → World → Prop} {Q : World → Prop} {st : L → α → Option α} {ok : L → α → Prop} (hV : Visitor A o k T x rv K Inv Q st ok) (s : α) (w : World) (h : Inv s w) (hok : ok .B s) :
    Calls Try.prog 32 #[.pointer (some ⟨A, o, none⟩), .iface T x] w (Vis Inv Q (st .B s)) := by
  go_enter Try.func32, Try.ntmps32
  go_wp2_with fail
  have HNA := hide (hV.ahead .B)
  have HME := hide (hV.meth .B)
  have HRU := hide (hV.run .B)
  simp only [nmL] at HNA HME
  refine wp_region_held_drew (S := fun _ => True) (by kernel_rfl) trivial (fun hHeld => ?_)
  refine wpAnyH_take (i := 0) (v := .iface T x) rfl (by kernel_rfl) (by kernel_rfl) (by kernel_rfl) (fun _ _ _ h => h) (Or.inl ⟨by rfl, fun w1 hSw => by clear hHeld; have hna := HNA.out; go_simp⟩) hHeld ?_
  simp only [Act.put, List.setIfInBounds_toArray]
  refine wpAnyH_take (i := 1) (v := .pointer (some ⟨A, o, none⟩)) rfl (by kernel_rfl) (by kernel_rfl) (by kernel_rfl) (fun _ _ _ h => h) (Or.inl ⟨by rfl, fun w1 hSw => by clear hHeld; have hna := HNA.out; go_simp⟩) hHeld ?_
  simp only [Act.put]
  refine wpAnyH_take (i := 2) (v := .pointer (some ⟨A, o, none⟩)) rfl (by kernel_rfl) (by kernel_rfl) (by kernel_rfl) (fun _ _ _ h => h) (Or.inl ⟨by rfl, fun w1 hSw => by clear hHeld; have hna := HNA.out; go_simp⟩) hHeld ?_
  simp only [Act.put]
  refine wpAnyH_take (i := 3) (v := .pointer (some ⟨A, o + 3, none⟩)) rfl (by kernel_rfl) (by kernel_rfl) (by kernel_rfl) (fun _ _ _ h => h) (Or.inl ⟨by rfl, fun w1 hSw => by clear hHeld; have hna := HNA.out; go_simp⟩) hHeld ?_
  simp only [Act.put]
  refine wpAnyH_take (i := 4) (v := .func (.method "gaffer/record.whole") #[.iface T x] #[]) rfl (by kernel_rfl) (by kernel_rfl) (by kernel_rfl) (fun _ _ _ h => h) (Or.inl ⟨by rfl, fun w1 hSw => by clear hHeld; have hna := HNA.out; go_simp⟩) hHeld ?_
  simp only [Act.put]
  refine wpAnyH_take (i := 5) (v := .func (.method "gaffer/record.whole") #[.iface T x] #[]) rfl (by kernel_rfl) (by kernel_rfl) (by kernel_rfl) (fun _ _ _ h => h) (Or.inl ⟨by rfl, fun w1 hSw => by clear hHeld; have hna := HNA.out; go_simp⟩) hHeld ?_
  simp only [Act.put]
  refine wpAnyH_take (i := 6) (v := .iface T x) rfl (by kernel_rfl) (by kernel_rfl) (by kernel_rfl) (fun _ _ _ h => h) (Or.inl ⟨by rfl, fun w1 hSw => by clear hHeld; have hna := HNA.out; go_simp⟩) hHeld ?_
  simp only [Act.put]
  refine wpAnyH_ready (rs := [7]) (by kernel_rfl) (by simp) ?_
  refine AllReadyH.cons rfl (fun KK hK => ?_) AllReadyH.nil
  have hme := HME.out; have hru := HRU.out
  go_simp
  clear hme hru HNA HME HRU
  refine (hV.call .B _ _ hok (hV.drew _ _ h)).mono ?_
  rintro e w1 hvis
  rcases hvis.cases with ⟨hst, he, hq⟩ | ⟨s1, hst, rfl, h1⟩
  · unfold Gives at he; subst he
    exact ⟨rfl, Vis.none hst rfl hq⟩
  refine hK.out _ _ trivial (fun hHeld => ?_)
  refine wpAnyH_done (by kernel_rfl) ?_ _
  go_end0
  exact Vis.some hst h1
set_option maxHeartbeats 800000 in
theorem visit_gen1 {α : Type} {A o : Nat} {k : Int} {T : TypeId} {x rv : Value} {K : L → FuncId} {Inv : α → World → Prop} {Q : World → Prop} {st : L → α → Option α} {ok : L → α → Prop} (hV : Visitor A o k T x rv K Inv Q st ok) (s : α) (w : World) (h : Inv s w) (hok : okAll ok st (Rc.letters k) s) (hk : k = 1) :
    Calls Try.prog 19 #[.pointer (some ⟨A, o, none⟩), .iface T x] w (Vis Inv Q (runL st (Rc.letters k) s)) := by
  have hc0 := hV.kind s w h
  rw [hk] at hc0
  have HR := hide (show Rc.letters k = [.N] by rw [hk]; rfl)
  clear hk
  have hok2 := hide (HR.out ▸ hok)
  go_enter Try.func19, Try.ntmps19
  go_wp2_with fail
  clear hc0
  obtain ⟨o1, hok3⟩ := hok2.out
  replace hok3 := hide hok3
  have HNA := hide (hV.ahead .N)
  have HME := hide (hV.meth .N)
  have HRU := hide (hV.run .N)
  simp only [nmL] at HNA HME
  refine wp_region_held_drew (S := fun _ => True) (by kernel_rfl) trivial (fun hHeld => ?_)
  refine wpAnyH_take (i := 0) (v := .iface T x) rfl (by kernel_rfl) (by kernel_rfl) (by kernel_rfl) (fun _ _ _ h => h) (Or.inl ⟨by rfl, fun w1 hSw => by clear hHeld; have hna := HNA.out; go_simp⟩) hHeld ?_
  simp only [Act.put, List.setIfInBounds_toArray]
  refine wpAnyH_take (i := 1) (v := .pointer (some ⟨A, o, none⟩)) rfl (by kernel_rfl) (by kernel_rfl) (by kernel_rfl) (fun _ _ _ h => h) (Or.inl ⟨by rfl, fun w1 hSw => by clear hHeld; have hna := HNA.out; go_simp⟩) hHeld ?_
  simp only [Act.put]
  refine wpAnyH_take (i := 2) (v := .pointer (some ⟨A, o, none⟩)) rfl (by kernel_rfl) (by kernel_rfl) (by kernel_rfl) (fun _ _ _ h => h) (Or.inl ⟨by rfl, fun w1 hSw => by clear hHeld; have hna := HNA.out; go_simp⟩) hHeld ?_
  simp only [Act.put]
  refine wpAnyH_take (i := 3) (v := .pointer (some ⟨A, o + 1, none⟩)) rfl (by kernel_rfl) (by kernel_rfl) (by kernel_rfl) (fun _ _ _ h => h) (Or.inl ⟨by rfl, fun w1 hSw => by clear hHeld; have hna := HNA.out; go_simp⟩) hHeld ?_
  simp only [Act.put]
  refine wpAnyH_take (i := 4) (v := .func (.method "gaffer/record.whole") #[.iface T x] #[]) rfl (by kernel_rfl) (by kernel_rfl) (by kernel_rfl) (fun _ _ _ h => h) (Or.inl ⟨by rfl, fun w1 hSw => by clear hHeld; have hna := HNA.out; go_simp⟩) hHeld ?_
  simp only [Act.put]
  refine wpAnyH_take (i := 5) (v := .func (.method "gaffer/record.whole") #[.iface T x] #[]) rfl (by kernel_rfl) (by kernel_rfl) (by kernel_rfl) (fun _ _ _ h => h) (Or.inl ⟨by rfl, fun w1 hSw => by clear hHeld; have hna := HNA.out; go_simp⟩) hHeld ?_
  simp only [Act.put]
  refine wpAnyH_take (i := 6) (v := .iface T x) rfl (by kernel_rfl) (by kernel_rfl) (by kernel_rfl) (fun _ _ _ h => h) (Or.inl ⟨by rfl, fun w1 hSw => by clear hHeld; have hna := HNA.out; go_simp⟩) hHeld ?_
  simp only [Act.put]
  refine wpAnyH_ready (rs := [7]) (by kernel_rfl) (by simp) ?_
  refine AllReadyH.cons rfl (fun KK hK => ?_) AllReadyH.nil
  have hme := HME.out; have hru := HRU.out
  go_simp
  clear hme hru HNA HME HRU
  refine (hV.call .N _ _ o1 (hV.drew _ _ h)).mono ?_
  rintro e w1 hvis
  rcases hvis.cases with ⟨hst1, he, hq⟩ | ⟨s1, hst1, rfl, h1⟩
  · unfold Gives at he; subst he
    exact ⟨rfl, Vis.none (by rw [HR.out]; simp [runL, hst1]) rfl hq⟩
  refine hK.out _ _ trivial (fun hHeld => ?_)
  refine wpAnyH_done (by kernel_rfl) ?_ _
  first | go_wp2_with fail | skip
  first | go_end0 | skip
  exact Vis.some (by rw [HR.out]; simp [runL, hst1]) h1
set_option maxHeartbeats 800000 in
theorem visit_gen2 {α : Type} {A o : Nat} {k : Int} {T : TypeId} {x rv : Value} {K : L → FuncId} {Inv : α → World → Prop} {Q : World → Prop} {st : L → α → Option α} {ok : L → α → Prop} (hV : Visitor A o k T x rv K Inv Q st ok) (s : α) (w : World) (h : Inv s w) (hok : okAll ok st (Rc.letters k) s) (hk : k = 2) :
    Calls Try.prog 19 #[.pointer (some ⟨A, o, none⟩), .iface T x] w (Vis Inv Q (runL st (Rc.letters k) s)) := by
  have hc0 := hV.kind s w h
  rw [hk] at hc0
  have HR := hide (show Rc.letters k = [.J, .P] by rw [hk]; rfl)
  clear hk
  have hok2 := hide (HR.out ▸ hok)
  go_enter Try.func19, Try.ntmps19
  go_wp2_with fail
  clear hc0
  obtain ⟨o1, hok3⟩ := hok2.out
  replace hok3 := hide hok3
  have HNA := hide (hV.ahead .J)
  have HME := hide (hV.meth .J)
  have HRU := hide (hV.run .J)
  simp only [nmL] at HNA HME
  refine wp_region_held_drew (S := fun _ => True) (by kernel_rfl) trivial (fun hHeld => ?_)
  refine wpAnyH_take (i := 0) (v := .iface T x) rfl (by kernel_rfl) (by kernel_rfl) (by kernel_rfl) (fun _ _ _ h => h) (Or.inl ⟨by rfl, fun w1 hSw => by clear hHeld; have hna := HNA.out; go_simp⟩) hHeld ?_
  simp only [Act.put, List.setIfInBounds_toArray]
  refine wpAnyH_take (i := 1) (v := .pointer (some ⟨A, o, none⟩)) rfl (by kernel_rfl) (by kernel_rfl) (by kernel_rfl) (fun _ _ _ h => h) (Or.inl ⟨by rfl, fun w1 hSw => by clear hHeld; have hna := HNA.out; go_simp⟩) hHeld ?_
  simp only [Act.put]
  refine wpAnyH_take (i := 2) (v := .pointer (some ⟨A, o, none⟩)) rfl (by kernel_rfl) (by kernel_rfl) (by kernel_rfl) (fun _ _ _ h => h) (Or.inl ⟨by rfl, fun w1 hSw => by clear hHeld; have hna := HNA.out; go_simp⟩) hHeld ?_
  simp only [Act.put]
  refine wpAnyH_take (i := 3) (v := .pointer (some ⟨A, o + 2, none⟩)) rfl (by kernel_rfl) (by kernel_rfl) (by kernel_rfl) (fun _ _ _ h => h) (Or.inl ⟨by rfl, fun w1 hSw => by clear hHeld; have hna := HNA.out; go_simp⟩) hHeld ?_
  simp only [Act.put]
  refine wpAnyH_take (i := 4) (v := .func (.method "gaffer/record.whole") #[.iface T x] #[]) rfl (by kernel_rfl) (by kernel_rfl) (by kernel_rfl) (fun _ _ _ h => h) (Or.inl ⟨by rfl, fun w1 hSw => by clear hHeld; have hna := HNA.out; go_simp⟩) hHeld ?_
  simp only [Act.put]
  refine wpAnyH_take (i := 5) (v := .func (.method "gaffer/record.whole") #[.iface T x] #[]) rfl (by kernel_rfl) (by kernel_rfl) (by kernel_rfl) (fun _ _ _ h => h) (Or.inl ⟨by rfl, fun w1 hSw => by clear hHeld; have hna := HNA.out; go_simp⟩) hHeld ?_
  simp only [Act.put]
  refine wpAnyH_take (i := 6) (v := .iface T x) rfl (by kernel_rfl) (by kernel_rfl) (by kernel_rfl) (fun _ _ _ h => h) (Or.inl ⟨by rfl, fun w1 hSw => by clear hHeld; have hna := HNA.out; go_simp⟩) hHeld ?_
  simp only [Act.put]
  refine wpAnyH_ready (rs := [7]) (by kernel_rfl) (by simp) ?_
  refine AllReadyH.cons rfl (fun KK hK => ?_) AllReadyH.nil
  have hme := HME.out; have hru := HRU.out
  go_simp
  clear hme hru HNA HME HRU
  refine (hV.call .J _ _ o1 (hV.drew _ _ h)).mono ?_
  rintro e w1 hvis
  rcases hvis.cases with ⟨hst1, he, hq⟩ | ⟨s1, hst1, rfl, h1⟩
  · unfold Gives at he; subst he
    exact ⟨rfl, Vis.none (by rw [HR.out]; simp [runL, hst1]) rfl hq⟩
  refine hK.out _ _ trivial (fun hHeld => ?_)
  refine wpAnyH_done (by kernel_rfl) ?_ _
  go_wp2_with fail
  obtain ⟨o2, hok4⟩ := hok3.out _ hst1
  replace hok4 := hide hok4
  have HNA := hide (hV.ahead .P)
  have HME := hide (hV.meth .P)
  have HRU := hide (hV.run .P)
  simp only [nmL] at HNA HME
  refine wp_region_held_drew (S := fun _ => True) (by kernel_rfl) trivial (fun hHeld => ?_)
  refine wpAnyH_take (i := 0) (v := .iface T x) rfl (by kernel_rfl) (by kernel_rfl) (by kernel_rfl) (fun _ _ _ h => h) (Or.inl ⟨by rfl, fun w1 hSw => by clear hHeld; have hna := HNA.out; go_simp⟩) hHeld ?_
  simp only [Act.put, List.setIfInBounds_toArray]
  refine wpAnyH_take (i := 1) (v := .pointer (some ⟨A, o, none⟩)) rfl (by kernel_rfl) (by kernel_rfl) (by kernel_rfl) (fun _ _ _ h => h) (Or.inl ⟨by rfl, fun w1 hSw => by clear hHeld; have hna := HNA.out; go_simp⟩) hHeld ?_
  simp only [Act.put]
  refine wpAnyH_take (i := 2) (v := .pointer (some ⟨A, o, none⟩)) rfl (by kernel_rfl) (by kernel_rfl) (by kernel_rfl) (fun _ _ _ h => h) (Or.inl ⟨by rfl, fun w1 hSw => by clear hHeld; have hna := HNA.out; go_simp⟩) hHeld ?_
  simp only [Act.put]
  refine wpAnyH_take (i := 3) (v := .pointer (some ⟨A, o + 8, none⟩)) rfl (by kernel_rfl) (by kernel_rfl) (by kernel_rfl) (fun _ _ _ h => h) (Or.inl ⟨by rfl, fun w1 hSw => by clear hHeld; have hna := HNA.out; go_simp⟩) hHeld ?_
  simp only [Act.put]
  refine wpAnyH_take (i := 4) (v := .func (.method "gaffer/record.text") #[.iface T x] #[]) rfl (by kernel_rfl) (by kernel_rfl) (by kernel_rfl) (fun _ _ _ h => h) (Or.inl ⟨by rfl, fun w1 hSw => by clear hHeld; have hna := HNA.out; go_simp⟩) hHeld ?_
  simp only [Act.put]
  refine wpAnyH_take (i := 5) (v := .func (.method "gaffer/record.text") #[.iface T x] #[]) rfl (by kernel_rfl) (by kernel_rfl) (by kernel_rfl) (fun _ _ _ h => h) (Or.inl ⟨by rfl, fun w1 hSw => by clear hHeld; have hna := HNA.out; go_simp⟩) hHeld ?_
  simp only [Act.put]
  refine wpAnyH_take (i := 6) (v := .iface T x) rfl (by kernel_rfl) (by kernel_rfl) (by kernel_rfl) (fun _ _ _ h => h) (Or.inl ⟨by rfl, fun w1 hSw => by clear hHeld; have hna := HNA.out; go_simp⟩) hHeld ?_
  simp only [Act.put]
  refine wpAnyH_ready (rs := [7]) (by kernel_rfl) (by simp) ?_
  refine AllReadyH.cons rfl (fun KK hK => ?_) AllReadyH.nil
  have hme := HME.out; have hru := HRU.out
  go_simp
  clear hme hru HNA HME HRU
  refine (hV.call .P _ _ o2 (hV.drew _ _ h1)).mono ?_
  rintro e w2 hvis
  rcases hvis.cases with ⟨hst2, he, hq⟩ | ⟨s2, hst2, rfl, h2⟩
  · unfold Gives at he; subst he
    exact ⟨rfl, Vis.none (by rw [HR.out]; simp [runL, hst1, hst2]) rfl hq⟩
  refine hK.out _ _ trivial (fun hHeld => ?_)
  refine wpAnyH_done (by kernel_rfl) ?_ _
  first | go_wp2_with fail | skip
  first | go_end0 | skip
  exact Vis.some (by rw [HR.out]; simp [runL, hst1, hst2]) h2
set_option maxHeartbeats 800000 in
theorem visit_gen3 {α : Type} {A o : Nat} {k : Int} {T : TypeId} {x rv : Value} {K : L → FuncId} {Inv : α → World → Prop} {Q : World → Prop} {st : L → α → Option α} {ok : L → α → Prop} (hV : Visitor A o k T x rv K Inv Q st ok) (s : α) (w : World) (h : Inv s w) (hok : okAll ok st (Rc.letters k) s) (hk : k = 3) :
    Calls Try.prog 19 #[.pointer (some ⟨A, o, none⟩), .iface T x] w (Vis Inv Q (runL st (Rc.letters k) s)) := by
  have hc0 := hV.kind s w h
  rw [hk] at hc0
  have HR := hide (show Rc.letters k = [.J, .B, .S, .F] by rw [hk]; rfl)
  clear hk
  have hok2 := hide (HR.out ▸ hok)
  go_enter Try.func19, Try.ntmps19
  go_wp2_with fail
  clear hc0
  obtain ⟨o1, hok3⟩ := hok2.out
  replace hok3 := hide hok3
  have HNA := hide (hV.ahead .J)
  have HME := hide (hV.meth .J)
  have HRU := hide (hV.run .J)
  simp only [nmL] at HNA HME
  refine wp_region_held_drew (S := fun _ => True) (by kernel_rfl) trivial (fun hHeld => ?_)
  refine wpAnyH_take (i := 0) (v := .iface T x) rfl (by kernel_rfl) (by kernel_rfl) (by kernel_rfl) (fun _ _ _ h => h) (Or.inl ⟨by rfl, fun w1 hSw => by clear hHeld; have hna := HNA.out; go_simp⟩) hHeld ?_
  simp only [Act.put, List.setIfInBounds_toArray]
  refine wpAnyH_take (i := 1) (v := .pointer (some ⟨A, o, none⟩)) rfl (by kernel_rfl) (by kernel_rfl) (by kernel_rfl) (fun _ _ _ h => h) (Or.inl ⟨by rfl, fun w1 hSw => by clear hHeld; have hna := HNA.out; go_simp⟩) hHeld ?_
  simp only [Act.put]
  refine wpAnyH_take (i := 2) (v := .pointer (some ⟨A, o, none⟩)) rfl (by kernel_rfl) (by kernel_rfl) (by kernel_rfl) (fun _ _ _ h => h) (Or.inl ⟨by rfl, fun w1 hSw => by clear hHeld; have hna := HNA.out; go_simp⟩) hHeld ?_
  simp only [Act.put]
  refine wpAnyH_take (i := 3) (v := .pointer (some ⟨A, o + 2, none⟩)) rfl (by kernel_rfl) (by kernel_rfl) (by kernel_rfl) (fun _ _ _ h => h) (Or.inl ⟨by rfl, fun w1 hSw => by clear hHeld; have hna := HNA.out; go_simp⟩) hHeld ?_
  simp only [Act.put]
  refine wpAnyH_take (i := 4) (v := .func (.method "gaffer/record.whole") #[.iface T x] #[]) rfl (by kernel_rfl) (by kernel_rfl) (by kernel_rfl) (fun _ _ _ h => h) (Or.inl ⟨by rfl, fun w1 hSw => by clear hHeld; have hna := HNA.out; go_simp⟩) hHeld ?_
  simp only [Act.put]
  refine wpAnyH_take (i := 5) (v := .func (.method "gaffer/record.whole") #[.iface T x] #[]) rfl (by kernel_rfl) (by kernel_rfl) (by kernel_rfl) (fun _ _ _ h => h) (Or.inl ⟨by rfl, fun w1 hSw => by clear hHeld; have hna := HNA.out; go_simp⟩) hHeld ?_
  simp only [Act.put]
  refine wpAnyH_take (i := 6) (v := .iface T x) rfl (by kernel_rfl) (by kernel_rfl) (by kernel_rfl) (fun _ _ _ h => h) (Or.inl ⟨by rfl, fun w1 hSw => by clear hHeld; have hna := HNA.out; go_simp⟩) hHeld ?_
  simp only [Act.put]
  refine wpAnyH_ready (rs := [7]) (by kernel_rfl) (by simp) ?_
  refine AllReadyH.cons rfl (fun KK hK => ?_) AllReadyH.nil
  have hme := HME.out; have hru := HRU.out
  go_simp
  clear hme hru HNA HME HRU
  refine (hV.call .J _ _ o1 (hV.drew _ _ h)).mono ?_
  rintro e w1 hvis
  rcases hvis.cases with ⟨hst1, he, hq⟩ | ⟨s1, hst1, rfl, h1⟩
  · unfold Gives at he; subst he
    exact ⟨rfl, Vis.none (by rw [HR.out]; simp [runL, hst1]) rfl hq⟩
  refine hK.out _ _ trivial (fun hHeld => ?_)
  refine wpAnyH_done (by kernel_rfl) ?_ _
  go_wp2_with fail
  obtain ⟨o2, hok4⟩ := hok3.out _ hst1
  replace hok4 := hide hok4
  refine (visitBadge_gen hV _ _ h1 o2).mono ?_
  rintro e w2 hvis
  rcases hvis.cases with ⟨hst2, he, hq⟩ | ⟨s2, hst2, rfl, h2⟩
  · unfold Gives at he; subst he
    go_wp2_with fail
    exact ⟨rfl, Vis.none (by rw [HR.out]; simp [runL, hst1, hst2]) rfl hq⟩
  go_wp2_with fail
  obtain ⟨o3, hok5⟩ := hok4.out _ hst2
  replace hok5 := hide hok5
  have HNA := hide (hV.ahead .S)
  have HME := hide (hV.meth .S)
  have HRU := hide (hV.run .S)
  simp only [nmL] at HNA HME
  refine wp_region_held_drew (S := fun _ => True) (by kernel_rfl) trivial (fun hHeld => ?_)
  refine wpAnyH_take (i := 0) (v := .iface T x) rfl (by kernel_rfl) (by kernel_rfl) (by kernel_rfl) (fun _ _ _ h => h) (Or.inl ⟨by rfl, fun w1 hSw => by clear hHeld; have hna := HNA.out; go_simp⟩) hHeld ?_
  simp only [Act.put, List.setIfInBounds_toArray]
  refine wpAnyH_take (i := 1) (v := .pointer (some ⟨A, o, none⟩)) rfl (by kernel_rfl) (by kernel_rfl) (by kernel_rfl) (fun _ _ _ h => h) (Or.inl ⟨by rfl, fun w1 hSw => by clear hHeld; have hna := HNA.out; go_simp⟩) hHeld ?_
  simp only [Act.put]
  refine wpAnyH_take (i := 2) (v := .pointer (some ⟨A, o, none⟩)) rfl (by kernel_rfl) (by kernel_rfl) (by kernel_rfl) (fun _ _ _ h => h) (Or.inl ⟨by rfl, fun w1 hSw => by clear hHeld; have hna := HNA.out; go_simp⟩) hHeld ?_
  simp only [Act.put]
  refine wpAnyH_take (i := 3) (v := .pointer (some ⟨A, o + 4, none⟩)) rfl (by kernel_rfl) (by kernel_rfl) (by kernel_rfl) (fun _ _ _ h => h) (Or.inl ⟨by rfl, fun w1 hSw => by clear hHeld; have hna := HNA.out; go_simp⟩) hHeld ?_
  simp only [Act.put]
  refine wpAnyH_take (i := 4) (v := .func (.method "gaffer/record.whole") #[.iface T x] #[]) rfl (by kernel_rfl) (by kernel_rfl) (by kernel_rfl) (fun _ _ _ h => h) (Or.inl ⟨by rfl, fun w1 hSw => by clear hHeld; have hna := HNA.out; go_simp⟩) hHeld ?_
  simp only [Act.put]
  refine wpAnyH_take (i := 5) (v := .func (.method "gaffer/record.whole") #[.iface T x] #[]) rfl (by kernel_rfl) (by kernel_rfl) (by kernel_rfl) (fun _ _ _ h => h) (Or.inl ⟨by rfl, fun w1 hSw => by clear hHeld; have hna := HNA.out; go_simp⟩) hHeld ?_
  simp only [Act.put]
  refine wpAnyH_take (i := 6) (v := .iface T x) rfl (by kernel_rfl) (by kernel_rfl) (by kernel_rfl) (fun _ _ _ h => h) (Or.inl ⟨by rfl, fun w1 hSw => by clear hHeld; have hna := HNA.out; go_simp⟩) hHeld ?_
  simp only [Act.put]
  refine wpAnyH_ready (rs := [7]) (by kernel_rfl) (by simp) ?_
  refine AllReadyH.cons rfl (fun KK hK => ?_) AllReadyH.nil
  have hme := HME.out; have hru := HRU.out
  go_simp
  clear hme hru HNA HME HRU
  refine (hV.call .S _ _ o3 (hV.drew _ _ h2)).mono ?_
  rintro e w3 hvis
  rcases hvis.cases with ⟨hst3, he, hq⟩ | ⟨s3, hst3, rfl, h3⟩
  · unfold Gives at he; subst he
    exact ⟨rfl, Vis.none (by rw [HR.out]; simp [runL, hst1, hst2, hst3]) rfl hq⟩
  refine hK.out _ _ trivial (fun hHeld => ?_)
  refine wpAnyH_done (by kernel_rfl) ?_ _
  go_wp2_with fail
  obtain ⟨o4, hok6⟩ := hok5.out _ hst3
  replace hok6 := hide hok6
  have HNA := hide (hV.ahead .F)
  have HME := hide (hV.meth .F)
  have HRU := hide (hV.run .F)
  simp only [nmL] at HNA HME
  refine wp_region_held_drew (S := fun _ => True) (by kernel_rfl) trivial (fun hHeld => ?_)
  refine wpAnyH_take (i := 0) (v := .iface T x) rfl (by kernel_rfl) (by kernel_rfl) (by kernel_rfl) (fun _ _ _ h => h) (Or.inl ⟨by rfl, fun w1 hSw => by clear hHeld; have hna := HNA.out; go_simp⟩) hHeld ?_
  simp only [Act.put, List.setIfInBounds_toArray]
  refine wpAnyH_take (i := 1) (v := .pointer (some ⟨A, o, none⟩)) rfl (by kernel_rfl) (by kernel_rfl) (by kernel_rfl) (fun _ _ _ h => h) (Or.inl ⟨by rfl, fun w1 hSw => by clear hHeld; have hna := HNA.out; go_simp⟩) hHeld ?_
  simp only [Act.put]
  refine wpAnyH_take (i := 2) (v := .pointer (some ⟨A, o, none⟩)) rfl (by kernel_rfl) (by kernel_rfl) (by kernel_rfl) (fun _ _ _ h => h) (Or.inl ⟨by rfl, fun w1 hSw => by clear hHeld; have hna := HNA.out; go_simp⟩) hHeld ?_
  simp only [Act.put]
  refine wpAnyH_take (i := 3) (v := .pointer (some ⟨A, o + 5, none⟩)) rfl (by kernel_rfl) (by kernel_rfl) (by kernel_rfl) (fun _ _ _ h => h) (Or.inl ⟨by rfl, fun w1 hSw => by clear hHeld; have hna := HNA.out; go_simp⟩) hHeld ?_
  simp only [Act.put]
  refine wpAnyH_take (i := 4) (v := .func (.method "gaffer/record.whole") #[.iface T x] #[]) rfl (by kernel_rfl) (by kernel_rfl) (by kernel_rfl) (fun _ _ _ h => h) (Or.inl ⟨by rfl, fun w1 hSw => by clear hHeld; have hna := HNA.out; go_simp⟩) hHeld ?_
  simp only [Act.put]
  refine wpAnyH_take (i := 5) (v := .func (.method "gaffer/record.whole") #[.iface T x] #[]) rfl (by kernel_rfl) (by kernel_rfl) (by kernel_rfl) (fun _ _ _ h => h) (Or.inl ⟨by rfl, fun w1 hSw => by clear hHeld; have hna := HNA.out; go_simp⟩) hHeld ?_
  simp only [Act.put]
  refine wpAnyH_take (i := 6) (v := .iface T x) rfl (by kernel_rfl) (by kernel_rfl) (by kernel_rfl) (fun _ _ _ h => h) (Or.inl ⟨by rfl, fun w1 hSw => by clear hHeld; have hna := HNA.out; go_simp⟩) hHeld ?_
  simp only [Act.put]
  refine wpAnyH_ready (rs := [7]) (by kernel_rfl) (by simp) ?_
  refine AllReadyH.cons rfl (fun KK hK => ?_) AllReadyH.nil
  have hme := HME.out; have hru := HRU.out
  go_simp
  clear hme hru HNA HME HRU
  refine (hV.call .F _ _ o4 (hV.drew _ _ h3)).mono ?_
  rintro e w4 hvis
  rcases hvis.cases with ⟨hst4, he, hq⟩ | ⟨s4, hst4, rfl, h4⟩
  · unfold Gives at he; subst he
    exact ⟨rfl, Vis.none (by rw [HR.out]; simp [runL, hst1, hst2, hst3, hst4]) rfl hq⟩
  refine hK.out _ _ trivial (fun hHeld => ?_)
  refine wpAnyH_done (by kernel_rfl) ?_ _
  first | go_wp2_with fail | skip
  first | go_end0 | skip
  exact Vis.some (by rw [HR.out]; simp [runL, hst1, hst2, hst3, hst4]) h4
set_option maxHeartbeats 800000 in
theorem visit_gen4 {α : Type} {A o : Nat} {k : Int} {T : TypeId} {x rv : Value} {K : L → FuncId} {Inv : α → World → Prop} {Q : World → Prop} {st : L → α → Option α} {ok : L → α → Prop} (hV : Visitor A o k T x rv K Inv Q st ok) (s : α) (w : World) (h : Inv s w) (hok : okAll ok st (Rc.letters k) s) (hk : k = 4) :
    Calls Try.prog 19 #[.pointer (some ⟨A, o, none⟩), .iface T x] w (Vis Inv Q (runL st (Rc.letters k) s)) := by
  have hc0 := hV.kind s w h
  rw [hk] at hc0
  have HR := hide (show Rc.letters k = [.B, .T] by rw [hk]; rfl)
  clear hk
  have hok2 := hide (HR.out ▸ hok)
  go_enter Try.func19, Try.ntmps19
  go_wp2_with fail
  clear hc0
  obtain ⟨o1, hok3⟩ := hok2.out
  replace hok3 := hide hok3
  refine (visitBadge_gen hV _ _ h o1).mono ?_
  rintro e w1 hvis
  rcases hvis.cases with ⟨hst1, he, hq⟩ | ⟨s1, hst1, rfl, h1⟩
  · unfold Gives at he; subst he
    go_wp2_with fail
    exact ⟨rfl, Vis.none (by rw [HR.out]; simp [runL, hst1]) rfl hq⟩
  go_wp2_with fail
  obtain ⟨o2, hok4⟩ := hok3.out _ hst1
  replace hok4 := hide hok4
  have HNA := hide (hV.ahead .T)
  have HME := hide (hV.meth .T)
  have HRU := hide (hV.run .T)
  simp only [nmL] at HNA HME
  refine wp_region_held_drew (S := fun _ => True) (by kernel_rfl) trivial (fun hHeld => ?_)
  refine wpAnyH_take (i := 0) (v := .iface T x) rfl (by kernel_rfl) (by kernel_rfl) (by kernel_rfl) (fun _ _ _ h => h) (Or.inl ⟨by rfl, fun w1 hSw => by clear hHeld; have hna := HNA.out; go_simp⟩) hHeld ?_
  simp only [Act.put, List.setIfInBounds_toArray]
  refine wpAnyH_take (i := 1) (v := .pointer (some ⟨A, o, none⟩)) rfl (by kernel_rfl) (by kernel_rfl) (by kernel_rfl) (fun _ _ _ h => h) (Or.inl ⟨by rfl, fun w1 hSw => by clear hHeld; have hna := HNA.out; go_simp⟩) hHeld ?_
  simp only [Act.put]
  refine wpAnyH_take (i := 2) (v := .pointer (some ⟨A, o, none⟩)) rfl (by kernel_rfl) (by kernel_rfl) (by kernel_rfl) (fun _ _ _ h => h) (Or.inl ⟨by rfl, fun w1 hSw => by clear hHeld; have hna := HNA.out; go_simp⟩) hHeld ?_
  simp only [Act.put]
  refine wpAnyH_take (i := 3) (v := .pointer (some ⟨A, o + 9, none⟩)) rfl (by kernel_rfl) (by kernel_rfl) (by kernel_rfl) (fun _ _ _ h => h) (Or.inl ⟨by rfl, fun w1 hSw => by clear hHeld; have hna := HNA.out; go_simp⟩) hHeld ?_
  simp only [Act.put]
  refine wpAnyH_take (i := 4) (v := .func (.method "gaffer/record.texts") #[.iface T x] #[]) rfl (by kernel_rfl) (by kernel_rfl) (by kernel_rfl) (fun _ _ _ h => h) (Or.inl ⟨by rfl, fun w1 hSw => by clear hHeld; have hna := HNA.out; go_simp⟩) hHeld ?_
  simp only [Act.put]
  refine wpAnyH_take (i := 5) (v := .func (.method "gaffer/record.texts") #[.iface T x] #[]) rfl (by kernel_rfl) (by kernel_rfl) (by kernel_rfl) (fun _ _ _ h => h) (Or.inl ⟨by rfl, fun w1 hSw => by clear hHeld; have hna := HNA.out; go_simp⟩) hHeld ?_
  simp only [Act.put]
  refine wpAnyH_take (i := 6) (v := .iface T x) rfl (by kernel_rfl) (by kernel_rfl) (by kernel_rfl) (fun _ _ _ h => h) (Or.inl ⟨by rfl, fun w1 hSw => by clear hHeld; have hna := HNA.out; go_simp⟩) hHeld ?_
  simp only [Act.put]
  refine wpAnyH_ready (rs := [7]) (by kernel_rfl) (by simp) ?_
  refine AllReadyH.cons rfl (fun KK hK => ?_) AllReadyH.nil
  have hme := HME.out; have hru := HRU.out
  go_simp
  clear hme hru HNA HME HRU
  refine (hV.call .T _ _ o2 (hV.drew _ _ h1)).mono ?_
  rintro e w2 hvis
  rcases hvis.cases with ⟨hst2, he, hq⟩ | ⟨s2, hst2, rfl, h2⟩
  · unfold Gives at he; subst he
    exact ⟨rfl, Vis.none (by rw [HR.out]; simp [runL, hst1, hst2]) rfl hq⟩
  refine hK.out _ _ trivial (fun hHeld => ?_)
  refine wpAnyH_done (by kernel_rfl) ?_ _
  first | go_wp2_with fail | skip
  first | go_end0 | skip
  exact Vis.some (by rw [HR.out]; simp [runL, hst1, hst2]) h2
set_option maxHeartbeats 800000 in
theorem visit_gen5 {α : Type} {A o : Nat} {k : Int} {T : TypeId} {x rv : Value} {K : L → FuncId} {Inv : α → World → Prop} {Q : World → Prop} {st : L → α → Option α} {ok : L → α → Prop} (hV : Visitor A o k T x rv K Inv Q st ok) (s : α) (w : World) (h : Inv s w) (hok : okAll ok st (Rc.letters k) s) (hk : k = 5) :
    Calls Try.prog 19 #[.pointer (some ⟨A, o, none⟩), .iface T x] w (Vis Inv Q (runL st (Rc.letters k) s)) := by
  have hc0 := hV.kind s w h
  rw [hk] at hc0
  have HR := hide (show Rc.letters k = [.B] by rw [hk]; rfl)
  clear hk
  have hok2 := hide (HR.out ▸ hok)
  go_enter Try.func19, Try.ntmps19
  go_wp2_with fail
  clear hc0
  obtain ⟨o1, hok3⟩ := hok2.out
  replace hok3 := hide hok3
  refine (visitBadge_gen hV _ _ h o1).mono ?_
  rintro e w1 hvis
  rcases hvis.cases with ⟨hst1, he, hq⟩ | ⟨s1, hst1, rfl, h1⟩
  · unfold Gives at he; subst he
    go_wp2_with fail
    exact ⟨rfl, Vis.none (by rw [HR.out]; simp [runL, hst1]) rfl hq⟩
  first | go_wp2_with fail | skip
  first | go_end0 | skip
  exact Vis.some (by rw [HR.out]; simp [runL, hst1]) h1
set_option maxHeartbeats 800000 in
theorem visit_gen6 {α : Type} {A o : Nat} {k : Int} {T : TypeId} {x rv : Value} {K : L → FuncId} {Inv : α → World → Prop} {Q : World → Prop} {st : L → α → Option α} {ok : L → α → Prop} (hV : Visitor A o k T x rv K Inv Q st ok) (s : α) (w : World) (h : Inv s w) (hok : okAll ok st (Rc.letters k) s) (hk : k = 6) :
    Calls Try.prog 19 #[.pointer (some ⟨A, o, none⟩), .iface T x] w (Vis Inv Q (runL st (Rc.letters k) s)) := by
  have hc0 := hV.kind s w h
  rw [hk] at hc0
  have HR := hide (show Rc.letters k = [.B, .R] by rw [hk]; rfl)
  clear hk
  have hok2 := hide (HR.out ▸ hok)
  go_enter Try.func19, Try.ntmps19
  go_wp2_with fail
  clear hc0
  obtain ⟨o1, hok3⟩ := hok2.out
  replace hok3 := hide hok3
  refine (visitBadge_gen hV _ _ h o1).mono ?_
  rintro e w1 hvis
  rcases hvis.cases with ⟨hst1, he, hq⟩ | ⟨s1, hst1, rfl, h1⟩
  · unfold Gives at he; subst he
    go_wp2_with fail
    exact ⟨rfl, Vis.none (by rw [HR.out]; simp [runL, hst1]) rfl hq⟩
  go_wp2_with fail
  obtain ⟨o2, hok4⟩ := hok3.out _ hst1
  replace hok4 := hide hok4
  have HNA := hide (hV.ahead .R)
  have HME := hide (hV.meth .R)
  have HRU := hide (hV.run .R)
  simp only [nmL] at HNA HME
  refine wp_region_held_drew (S := fun _ => True) (by kernel_rfl) trivial (fun hHeld => ?_)
  refine wpAnyH_take (i := 0) (v := .iface T x) rfl (by kernel_rfl) (by kernel_rfl) (by kernel_rfl) (fun _ _ _ h => h) (Or.inl ⟨by rfl, fun w1 hSw => by clear hHeld; have hna := HNA.out; go_simp⟩) hHeld ?_
  simp only [Act.put, List.setIfInBounds_toArray]
  refine wpAnyH_take (i := 1) (v := .pointer (some ⟨A, o, none⟩)) rfl (by kernel_rfl) (by kernel_rfl) (by kernel_rfl) (fun _ _ _ h => h) (Or.inl ⟨by rfl, fun w1 hSw => by clear hHeld; have hna := HNA.out; go_simp⟩) hHeld ?_
  simp only [Act.put]
  refine wpAnyH_take (i := 2) (v := .pointer (some ⟨A, o, none⟩)) rfl (by kernel_rfl) (by kernel_rfl) (by kernel_rfl) (fun _ _ _ h => h) (Or.inl ⟨by rfl, fun w1 hSw => by clear hHeld; have hna := HNA.out; go_simp⟩) hHeld ?_
  simp only [Act.put]
  refine wpAnyH_take (i := 3) (v := .pointer (some ⟨A, o + 6, none⟩)) rfl (by kernel_rfl) (by kernel_rfl) (by kernel_rfl) (fun _ _ _ h => h) (Or.inl ⟨by rfl, fun w1 hSw => by clear hHeld; have hna := HNA.out; go_simp⟩) hHeld ?_
  simp only [Act.put]
  refine wpAnyH_take (i := 4) (v := .func (.method "gaffer/record.result") #[.iface T x] #[]) rfl (by kernel_rfl) (by kernel_rfl) (by kernel_rfl) (fun _ _ _ h => h) (Or.inl ⟨by rfl, fun w1 hSw => by clear hHeld; have hna := HNA.out; go_simp⟩) hHeld ?_
  simp only [Act.put]
  refine wpAnyH_take (i := 5) (v := .func (.method "gaffer/record.result") #[.iface T x] #[]) rfl (by kernel_rfl) (by kernel_rfl) (by kernel_rfl) (fun _ _ _ h => h) (Or.inl ⟨by rfl, fun w1 hSw => by clear hHeld; have hna := HNA.out; go_simp⟩) hHeld ?_
  simp only [Act.put]
  refine wpAnyH_take (i := 6) (v := .iface T x) rfl (by kernel_rfl) (by kernel_rfl) (by kernel_rfl) (fun _ _ _ h => h) (Or.inl ⟨by rfl, fun w1 hSw => by clear hHeld; have hna := HNA.out; go_simp⟩) hHeld ?_
  simp only [Act.put]
  refine wpAnyH_ready (rs := [7]) (by kernel_rfl) (by simp) ?_
  refine AllReadyH.cons rfl (fun KK hK => ?_) AllReadyH.nil
  have hme := HME.out; have hru := HRU.out
  go_simp
  clear hme hru HNA HME HRU
  refine (hV.call .R _ _ o2 (hV.drew _ _ h1)).mono ?_
  rintro e w2 hvis
  rcases hvis.cases with ⟨hst2, he, hq⟩ | ⟨s2, hst2, rfl, h2⟩
  · unfold Gives at he; subst he
    exact ⟨rfl, Vis.none (by rw [HR.out]; simp [runL, hst1, hst2]) rfl hq⟩
  refine hK.out _ _ trivial (fun hHeld => ?_)
  refine wpAnyH_done (by kernel_rfl) ?_ _
  first | go_wp2_with fail | skip
  first | go_end0 | skip
  exact Vis.some (by rw [HR.out]; simp [runL, hst1, hst2]) h2
theorem visit_gen {α : Type} {A o : Nat} {k : Int} {T : TypeId} {x rv : Value} {K : L → FuncId} {Inv : α → World → Prop} {Q : World → Prop} {st : L → α → Option α} {ok : L → α → Prop} (hV : Visitor A o k T x rv K Inv Q st ok) (s : α) (w : World) (h : Inv s w) (hok : okAll ok st (Rc.letters k) s) (hk : 1 ≤ k ∧ k ≤ 6) : Calls Try.prog 19 #[.pointer (some ⟨A, o, none⟩), .iface T x] w (Vis Inv Q (runL st (Rc.letters k) s)) := by
  rcases (show k = 1 ∨ k = 2 ∨ k = 3 ∨ k = 4 ∨ k = 5 ∨ k = 6 by omega) with e | e | e | e | e | e
  · exact visit_gen1 hV s w h hok e
  · exact visit_gen2 hV s w h hok e
  · exact visit_gen3 hV s w h hok e
  · exact visit_gen4 hV s w h hok e
  · exact visit_gen5 hV s w h hok e
  · exact visit_gen6 hV s w h hok e
end Go.Proofs.Ytlgcimfbhjidgaa
end
