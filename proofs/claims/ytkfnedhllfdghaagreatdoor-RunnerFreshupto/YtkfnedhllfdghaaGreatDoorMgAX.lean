import Derived.Test.YtkfnedhllfdghaaGreatDoorRows
import Derived.WalkKit
import Derived.WalkSpells
import Derived.WalkLawsBesides
import Derived.BigQuiet
import Derived.BigRegion
import Derived.Deep.Cut
import Derived.Deep.AppendLies
import Derived.Deep.RegionLaw
import Derived.Deep.RegionHeld3
import Derived.Laws.StructEq
import Derived.Lib.SliceRun
import Derived.ArgAppend

section
namespace Go.Proofs.YtkfnedhllfdghaaGreatDoor.CH
set_option maxRecDepth 20000
open Go.RowKit

theorem hide {p : Prop} (h : p) : Hid p := h
/-- a sender: so many have left, R are the others -/
structure Sn where
  wd : Nat
  rs : Nat
  go : Nat
  R : List ByteArray
  said : Nat
  ti : Nat
/-- how many there are -/
def Sn.len (s : Sn) : Nat := s.go + s.R.length
/-- the number behind the window's last item -/
def Sn.we (s : Sn) : Nat := min (s.go + s.wd) s.len
structure Sn.ok (s : Sn) : Prop where
  w1 : 1 ≤ s.wd
  w8 : s.wd ≤ 8
  r1 : 1 ≤ s.rs
  r2 : s.rs ≤ 16
  l : s.go + s.R.length ≤ 32
  gs : s.go ≤ s.said
  sw : s.said ≤ s.we
  t : s.ti ≤ s.rs
theorem Sn.ok.we1 {s : Sn} (h : s.ok) : s.said ≤ s.go + s.wd := Nat.le_trans h.sw (Nat.min_le_left _ _)
theorem Sn.ok.we2 {s : Sn} (h : s.ok) : s.said ≤ s.go + s.R.length := Nat.le_trans h.sw (Nat.min_le_right _ _)
/-- what of the texts lies in memory -/
structure Rs (w : World) (ad : Option Addr) (cap X o : Nat) (R : List ByteArray) : Prop where
  le : R.length ≤ cap
  at_ : 0 < cap → ad = some ⟨X, o, none⟩
  blk : 0 < cap → ∃ cur, w.heap[X]? = some (.cells cur 9 (0, 0)) ∧ o + cap ≤ cur.size
  c : ∀ i (h : i < R.length), w.cell? ⟨X, o + i, none⟩ = some (.string R[i])
theorem Rs.keep {w w' : World} {ad : Option Addr} {cap X o : Nat} {R : List ByteArray} (h : Rs w ad cap X o R) (hk : 0 < cap → w'.heap[X]? = w.heap[X]?) : Rs w' ad cap X o R :=
  ⟨h.le, h.at_, fun h0 => by rw [hk h0]; exact h.blk h0, fun i hi => (World.cell?_of_block (hk (by have := h.le; omega))).trans (h.c i hi)⟩
theorem Rs.lt {w : World} {ad : Option Addr} {cap X o : Nat} {R : List ByteArray} (h : Rs w ad cap X o R) (h0 : 0 < cap) : X < w.heap.size := by
  obtain ⟨cur, hc, _⟩ := h.blk h0
  exact lt_of_block hc
theorem Rs.nil (w : World) : Rs w none 0 0 0 [] := ⟨Nat.le_refl _, fun h => absurd h (by decide), fun h => absurd h (by decide), fun i h => absurd h (by simp)⟩
/-- a piece of it -/
theorem Rs.piece {w : World} {ad : Option Addr} {cap X o : Nat} {R : List ByteArray} (h : Rs w ad cap X o R) {f t : Nat} (h1 : f ≤ t) (h2 : t ≤ R.length) (ad' : Option Addr) (had : f < t → ad' = some ⟨X, o + f, none⟩) : Rs w ad' (t - f) X (o + f) ((R.drop f).take (t - f)) := by
  have hle := h.le
  refine ⟨by rw [List.length_take]; omega, fun h0 => had (by omega), fun h0 => ?_, fun i hi => ?_⟩
  · obtain ⟨cur, hc, hs⟩ := h.blk (by omega)
    exact ⟨cur, hc, by omega⟩
  · have hi' : i < t - f := by simp at hi; omega
    rw [Nat.add_assoc, h.c (f + i) (by omega)]
    simp
/-- a sender's cells -/
def scs (s : Sn) (ad : Option Addr) (cap : Nat) : Array Value := #[.int .i64 s.wd, .int .i64 s.rs, .int .i64 s.go, .slice ad s.R.length cap, .int .i64 s.said, .int .i64 s.ti]
/-- a sender in memory -/
structure Sb (w : World) (b : Nat) (s : Sn) (ad : Option Addr) (cap X o : Nat) : Prop where
  cb : w.heap[b]? = some (.cells (scs s ad cap) 170 (0, 0))
  rs : Rs w ad cap X o s.R
section
variable {w : World} {b : Nat} {s : Sn} {ad : Option Addr} {cap X o : Nat}
theorem Sb.lt (h : Sb w b s ad cap X o) : b < w.heap.size := lt_of_block h.cb
theorem Sb.c0 (h : Sb w b s ad cap X o) : w.cell? ⟨b, 0, none⟩ = some (.int .i64 (s.wd : Int)) := by have h := h.cb; simp [World.cell?, h, scs]
theorem Sb.c1 (h : Sb w b s ad cap X o) : w.cell? ⟨b, 1, none⟩ = some (.int .i64 (s.rs : Int)) := by have h := h.cb; simp [World.cell?, h, scs]
theorem Sb.c2 (h : Sb w b s ad cap X o) : w.cell? ⟨b, 2, none⟩ = some (.int .i64 (s.go : Int)) := by have h := h.cb; simp [World.cell?, h, scs]
theorem Sb.c3 (h : Sb w b s ad cap X o) : w.cell? ⟨b, 3, none⟩ = some (.slice ad s.R.length cap) := by have h := h.cb; simp [World.cell?, h, scs]
theorem Sb.c4 (h : Sb w b s ad cap X o) : w.cell? ⟨b, 4, none⟩ = some (.int .i64 (s.said : Int)) := by have h := h.cb; simp [World.cell?, h, scs]
theorem Sb.c5 (h : Sb w b s ad cap X o) : w.cell? ⟨b, 5, none⟩ = some (.int .i64 (s.ti : Int)) := by have h := h.cb; simp [World.cell?, h, scs]
theorem Sb.z (h : Sb w b s ad cap X o) (k : Nat) : w.frozen? ⟨b, k, none⟩ = false := by have h := h.cb; simp [World.frozen?, h]
theorem blk_ne {w : World} {a b : Nat} {cs ds : Array Value} {s t : TypeId} (h : w.heap[a]? = some (.cells cs s (0, 0))) (k : w.heap[b]? = some (.cells ds t (0, 0))) (hn : s ≠ t) : a ≠ b := by
  rintro rfl
  rw [h] at k
  injection k with k
  injection k with _ k2
  exact hn k2
theorem Sb.ne (h : Sb w b s ad cap X o) (h0 : 0 < cap) : X ≠ b := by
  obtain ⟨cur, hc, _⟩ := h.rs.blk h0
  exact blk_ne hc h.cb (by decide)
theorem heap_set_self (w : World) (g o : Nat) (v : Value) (cur : Array Value) (t : TypeId) (fr : Nat × Nat) (h : w.heap[g]? = some (.cells cur t fr)) : (w.setCell ⟨g, o, none⟩ v).heap[g]? = some (.cells (cur.setIfInBounds o v) t fr) := by
  have hlt := lt_of_block h
  have h' : w.heap[g] = .cells cur t fr := by simpa [Array.getElem?_eq_getElem hlt] using h
  show (w.heap.modify g _)[g]? = _
  rw [Array.getElem?_eq_getElem (by simpa using hlt), Array.getElem_modify_self, h']
  rfl
theorem setCell_size (w : World) (a : Addr) (v : Value) : (w.setCell a v).heap.size = w.heap.size := by simp [World.setCell]
theorem Sb.drewN (h : Sb w b s ad cap X o) (n : Nat) : Sb (w.drewN n) b s ad cap X o := ⟨h.cb, h.rs.keep fun _ => rfl⟩
theorem Sb.drew (h : Sb w b s ad cap X o) : Sb w.drew b s ad cap X o := ⟨h.cb, h.rs.keep fun _ => rfl⟩
theorem Sb.below {w' : World} (h : Sb w b s ad cap X o) (hb : Below w.heap.size w w') : Sb w' b s ad cap X o := ⟨(hb.block b h.lt).trans h.cb, h.rs.keep fun h0 => hb.block X (h.rs.lt h0)⟩
theorem Sb.c3_ti (h : Sb w b s ad cap X o) (v : Nat) : Sb (w.setCell ⟨b, 5, none⟩ (.int .i64 (v : Int))) b { s with ti := v } ad cap X o :=
  ⟨heap_set_self w b 5 _ _ _ _ h.cb, h.rs.keep fun h0 => Below.heap_setCell _ ⟨b, 5, none⟩ _ X (h.ne h0)⟩
theorem Sb.c3_said (h : Sb w b s ad cap X o) (v : Nat) : Sb (w.setCell ⟨b, 4, none⟩ (.int .i64 (v : Int))) b { s with said := v } ad cap X o :=
  ⟨heap_set_self w b 4 _ _ _ _ h.cb, h.rs.keep fun h0 => Below.heap_setCell _ ⟨b, 4, none⟩ _ X (h.ne h0)⟩
end
/-- only block b is turned -/
structure On (b : Nat) (w w' : World) : Prop where
  os : w'.os = w.os
  tape : w'.tape = w.tape
  output : w'.output = w.output
  size : w.heap.size ≤ w'.heap.size
  block : ∀ k, k < w.heap.size → k ≠ b → w'.heap[k]? = w.heap[k]?
theorem On.refl (b : Nat) (w : World) : On b w w := ⟨rfl, rfl, rfl, Nat.le_refl _, fun _ _ _ => rfl⟩
theorem On.set {b : Nat} {w w' : World} (h : On b w w') (o : Nat) (v : Value) : On b w (w'.setCell ⟨b, o, none⟩ v) :=
  ⟨h.os, h.tape, h.output, by rw [setCell_size]; exact h.size, fun k hk hn => (Below.heap_setCell _ _ _ k hn).trans (h.block k hk hn)⟩
theorem On.drewN {b : Nat} {w w' : World} (h : On b w w') (n : Nat) : On b w (w'.drewN n) := ⟨h.os, h.tape, h.output, h.size, h.block⟩
theorem On.drew {b : Nat} {w w' : World} (h : On b w w') : On b w w'.drew := ⟨h.os, h.tape, h.output, h.size, h.block⟩
theorem On.below {b : Nat} {w w' : World} (h : On b w w') {B : Nat} (h1 : B ≤ b) (h2 : B ≤ w.heap.size) : Below B w w' := ⟨h.os, h.tape, h.output, h.size, fun k hk => h.block k (by omega) (by omega)⟩
theorem On.of_below {b : Nat} {w w' : World} (h : Below w.heap.size w w') : On b w w' := ⟨h.os, h.tape, h.output, h.size, fun k hk _ => h.block k hk⟩
theorem On.trans {b : Nat} {u v w : World} (h : On b u v) (k : On b v w) : On b u w :=
  ⟨k.os.trans h.os, k.tape.trans h.tape, k.output.trans h.output, Nat.le_trans h.size k.size, fun i hi hn => (k.block i (Nat.lt_of_lt_of_le hi h.size) hn).trans (h.block i hi hn)⟩
theorem On.alloc {b : Nat} {w w' : World} (h : On b w w') (o : Obj) : On b w (w'.alloc o) := h.trans (On.of_below ((Below.refl _ w').alloc (Nat.le_refl _) o))
theorem below_drewN {B : Nat} {w w' : World} (h : Below B w w') (n : Nat) : Below B w (w'.drewN n) := ⟨h.os, h.tape, h.output, h.size, h.block⟩
theorem below_drew {B : Nat} {w w' : World} (h : Below B w w') : Below B w w'.drew := ⟨h.os, h.tape, h.output, h.size, h.block⟩
theorem below_alloc (w : World) (o : Obj) : Below w.heap.size w (w.alloc o) := (Below.refl _ w).alloc (Nat.le_refl _) o

def newS (x y : Nat) : Sn := ⟨x, y, 0, [], 0, 0⟩
theorem newS_ok {x y : Nat} (h1 : 1 ≤ x) (h2 : x ≤ 8) (h3 : 1 ≤ y) (h4 : y ≤ 16) : (newS x y).ok := ⟨h1, h2, h3, h4, by simp [newS], Nat.le_refl _, Nat.zero_le _, Nat.zero_le _⟩
def may (x y : Int) : Prop := 1 ≤ x ∧ x ≤ 8 ∧ 1 ≤ y ∧ y ≤ 16
/-- what a call of New leaves -/
def NPost (x y : Int) (w : World) (e : Ending) (w' : World) : Prop :=
  (¬ may x y ∧ e = .returned (.tuple #[.pointer none, .int .i64 140]) ∧ w' = w) ∨ (may x y ∧ e = .returned (.tuple #[.pointer (some ⟨w.heap.size, 0, none⟩), .int .i64 0]) ∧ Sb w' w.heap.size (newS x.toNat y.toNat) none 0 0 0 ∧ Below w.heap.size w w')
theorem NPost.no {x y : Int} {w : World} (h : ¬ may x y) : NPost x y w (.returned (.tuple #[.pointer none, .int .i64 140])) w := .inl ⟨h, rfl, rfl⟩
set_option maxHeartbeats 1000000 in
theorem snew_any (w : World) {x y : Int} (hx : -9223372036854775808 ≤ x ∧ x ≤ 9223372036854775807) (hy : -9223372036854775808 ≤ y ∧ y ≤ 9223372036854775807) :
    Calls Tryz.prog 186 #[.int .i64 x, .int .i64 y] w (NPost x y w) := by
  by_cases h1 : x < 1
  · go_enter Tryz.func186, Tryz.ntmps186
    go_wp2
    go_ret2
    exact NPost.no (fun h => by obtain ⟨k1, k2, k3, k4⟩ := h; omega)
  by_cases h2 : 8 < x
  · go_enter Tryz.func186, Tryz.ntmps186
    go_wp2
    go_ret2
    exact NPost.no (fun h => by obtain ⟨k1, k2, k3, k4⟩ := h; omega)
  by_cases h3 : y < 1
  · go_enter Tryz.func186, Tryz.ntmps186
    go_wp2
    go_ret2
    exact NPost.no (fun h => by obtain ⟨k1, k2, k3, k4⟩ := h; omega)
  by_cases h4 : 16 < y
  · go_enter Tryz.func186, Tryz.ntmps186
    go_wp2
    go_ret2
    exact NPost.no (fun h => by obtain ⟨k1, k2, k3, k4⟩ := h; omega)
  obtain ⟨a, rfl⟩ : ∃ a : Nat, x = (a : Int) := ⟨x.toNat, by omega⟩
  obtain ⟨c, rfl⟩ : ∃ c : Nat, y = (c : Int) := ⟨y.toNat, by omega⟩
  go_enter Tryz.func186, Tryz.ntmps186
  go_wp2
  go_ret2
  exact .inr ⟨⟨by omega, by omega, by omega, by omega⟩, rfl, ⟨heap_alloc_new w _, Rs.nil _⟩, below_alloc w _⟩
set_option maxHeartbeats 1000000 in
theorem acked_any {w : World} {b : Nat} {s : Sn} {ad : Option Addr} {cap X o : Nat} (h : Sb w b s ad cap X o) :
    Calls Tryz.prog 82 #[.pointer (some ⟨b, 0, none⟩)] w fun e w' => e = .returned (.int .i64 (s.go : Int)) ∧ w' = w := by
  have c1 := h.c2
  clear h
  go_enter Tryz.func82, Tryz.ntmps82
  go_wp2
  go_ret
  exact ⟨rfl, rfl⟩
set_option maxHeartbeats 1000000 in
theorem said_any {w : World} {b : Nat} {s : Sn} {ad : Option Addr} {cap X o : Nat} (h : Sb w b s ad cap X o) :
    Calls Tryz.prog 83 #[.pointer (some ⟨b, 0, none⟩)] w fun e w' => e = .returned (.int .i64 (s.said : Int)) ∧ w' = w := by
  have c1 := h.c4
  clear h
  go_enter Tryz.func83, Tryz.ntmps83
  go_wp2
  go_ret
  exact ⟨rfl, rfl⟩
set_option maxHeartbeats 1000000 in
theorem timer_any {w : World} {b : Nat} {s : Sn} {ad : Option Addr} {cap X o : Nat} (h : Sb w b s ad cap X o) :
    Calls Tryz.prog 84 #[.pointer (some ⟨b, 0, none⟩)] w fun e w' => e = .returned (.int .i64 (s.ti : Int)) ∧ w' = w := by
  have c1 := h.c5
  clear h
  go_enter Tryz.func84, Tryz.ntmps84
  go_wp2
  go_ret
  exact ⟨rfl, rfl⟩
def Sn.tick (s : Sn) : Sn := { s with ti := s.ti - 1 }
theorem Sn.tick_ok {s : Sn} (h : s.ok) : s.tick.ok := ⟨h.w1, h.w8, h.r1, h.r2, h.l, h.gs, h.sw, by have := h.t; show s.ti - 1 ≤ s.rs; omega⟩
set_option maxHeartbeats 1000000 in
theorem tick_any {w : World} {b : Nat} {s : Sn} {ad : Option Addr} {cap X o : Nat} (hk : s.ok) (h : Sb w b s ad cap X o) :
    Calls Tryz.prog 56 #[.pointer (some ⟨b, 0, none⟩)] w fun e w' => e = .returned (.tuple #[]) ∧ Sb w' b s.tick ad cap X o ∧ On b w w' := by
  have c1 := h.c5
  have z1 := h.z 5
  have h16 : s.ti ≤ 16 := Nat.le_trans hk.t hk.r2
  have HH := hide h
  clear hk h
  by_cases ht : s.ti = 0
  · have e1 : s.tick = s := by unfold Sn.tick; rw [ht]; cases s; simp_all
    rw [e1]
    rw [ht] at c1
    clear ht e1
    go_enter Tryz.func56, Tryz.ntmps56
    go_wp2
    go_end0
    exact ⟨rfl, HH.out, On.refl b w⟩
  · obtain ⟨n, hn⟩ : ∃ n, s.ti = n + 1 := ⟨s.ti - 1, by omega⟩
    have HN := hide hn
    rw [hn] at c1
    have hn16 : n ≤ 15 := by omega
    clear ht hn
    go_enter Tryz.func56, Tryz.ntmps56
    go_wp2
    go_end0
    refine ⟨rfl, ?_, (On.refl b w).set _ _⟩
    have := HH.out.c3_ti n
    rw [show s.tick = { s with ti := n } by unfold Sn.tick; rw [HN.out]; rfl]
    exact this
set_option maxHeartbeats 1000000 in
theorem end_any {w : World} {b : Nat} {s : Sn} {ad : Option Addr} {cap X o : Nat} (hk : s.go + s.R.length ≤ 32) (h : Sb w b s ad cap X o) :
    Calls Tryz.prog 123 #[.pointer (some ⟨b, 2, none⟩)] w fun e w' => e = .returned (.int .i64 (s.len : Int)) ∧ ∃ m, w' = w.drewN m := by
  have c1 := h.c2
  have c2 := h.c3
  obtain ⟨n, hn⟩ : ∃ n, s.len = n := ⟨_, rfl⟩
  have hn2 : (s.go : Int) + (s.R.length : Int) = (n : Int) := by rw [← hn]; unfold Sn.len; omega
  rw [hn]
  have hn3 : n ≤ 32 := by omega
  clear h hn hk
  go_enter Tryz.func123, Tryz.ntmps123
  go_wp2
  go_quiet (fail)
  go_wp2
  go_ret
  exact ⟨rfl, _, rfl⟩
set_option maxHeartbeats 1000000 in
theorem len_any {w : World} {b : Nat} {s : Sn} {ad : Option Addr} {cap X o : Nat} (hk : s.go + s.R.length ≤ 32) (h : Sb w b s ad cap X o) :
    Calls Tryz.prog 81 #[.pointer (some ⟨b, 0, none⟩)] w fun e w' => e = .returned (.int .i64 (s.len : Int)) ∧ ∃ m, w' = w.drewN m := by
  have HE := hide (end_any hk h)
  clear h hk
  go_enter Tryz.func81, Tryz.ntmps81
  go_wp2_with fail
  refine HE.out.mono ?_
  rintro e w1 ⟨rfl, m, rfl⟩
  go_wp2_with fail
  go_ret
  exact ⟨rfl, m, rfl⟩
end Go.Proofs.YtkfnedhllfdghaaGreatDoor.CH
end

section
namespace Go.Proofs.YtkfnedhllfdghaaGreatDoor.CH
set_option maxRecDepth 20000
open Go.RowKit

theorem Tryz.infoS : (Tryz.prog.info? 9).map (fun i => (i.zero, i.size, i.bytes)) = some (some (.string ByteArray.empty), 1, 16) := by kernel_rfl
theorem info_parts {t : TypeId} {z : Option Value} {s b : Nat} (h : (Tryz.prog.info? t).map (fun i => (i.zero, i.size, i.bytes)) = some (z, s, b)) : ∃ i, Tryz.prog.info? t = some i ∧ i.zero = z ∧ i.size = s ∧ i.bytes = b := by
  cases hi : Tryz.prog.info? t with
  | none => rw [hi] at h; cases h
  | some i => rw [hi] at h; simp at h; exact ⟨i, rfl, h.1, h.2.1, h.2.2⟩
theorem one_new (w : World) (u : Value) (t : TypeId) : ∀ j x, [u][j]? = some x → (w.alloc (.cells #[u] t)).cell? ((⟨w.heap.size, 0, none⟩ : Addr).add j) = some x := by
  intro j x hj
  match j, hj with
  | 0, hj => simp at hj; subst hj; simp [Addr.add]
/-- only block b and one cell of block X are turned -/
structure Pt (b X k : Nat) (w w' : World) : Prop where
  os : w'.os = w.os
  tape : w'.tape = w.tape
  output : w'.output = w.output
  size : w.heap.size ≤ w'.heap.size
  block : ∀ j, j < w.heap.size → j ≠ b → j ≠ X → w'.heap[j]? = w.heap[j]?
  cell : ∀ i, i ≠ k → w'.cell? ⟨X, i, none⟩ = w.cell? ⟨X, i, none⟩
  shape : ∀ cur t, w.heap[X]? = some (.cells cur t (0, 0)) → ∃ cur', w'.heap[X]? = some (.cells cur' t (0, 0)) ∧ cur'.size = cur.size
theorem Pt.of {b X k : Nat} {w w1 : World} (hb : Below w.heap.size w w1) (hX : X < w.heap.size) (hn : X ≠ b) (v u : Value) (j : Nat) : Pt b X k w ((w1.setCell ⟨X, k, none⟩ v).setCell ⟨b, j, none⟩ u) := by
  refine ⟨hb.os, hb.tape, hb.output, by rw [setCell_size, setCell_size]; exact hb.size, fun i hi h1 h2 => ?_, fun i hi => ?_, fun cur t hc => ?_⟩
  · exact (Below.heap_setCell _ ⟨b, j, none⟩ _ i h1).trans ((Below.heap_setCell _ ⟨X, k, none⟩ _ i h2).trans (hb.block i hi))
  · rw [World.cell?_of_block (w := w1.setCell ⟨X, k, none⟩ v) (a := ⟨X, i, none⟩) (Below.heap_setCell _ ⟨b, j, none⟩ _ X hn)]
    have h1 := World.cell?_setCells_out X [v] k w1 ⟨X, i, none⟩ (fun _ _ => by show i < k ∨ k + [v].length ≤ i; simp; omega)
    exact h1.trans (World.cell?_of_block (hb.block X hX))
  · have h1 := heap_set_self w1 X k v cur t (0, 0) ((hb.block X hX).trans hc)
    exact ⟨_, (Below.heap_setCell _ ⟨b, j, none⟩ _ X hn).trans h1, by simp⟩
theorem Pt.drewN {b X k : Nat} {w w' : World} (h : Pt b X k w w') (n : Nat) : Pt b X k w (w'.drewN n) := ⟨h.os, h.tape, h.output, h.size, h.block, h.cell, h.shape⟩
theorem Pt.pre {b X k : Nat} {w w' : World} {n : Nat} (h : Pt b X k (w.drewN n) w') : Pt b X k w w' := ⟨h.os, h.tape, h.output, h.size, h.block, h.cell, h.shape⟩
theorem On.pre {b : Nat} {w w' : World} {n : Nat} (h : On b (w.drewN n) w') : On b w w' := ⟨h.os, h.tape, h.output, h.size, h.block⟩
theorem Pt.below {b X k : Nat} {w w' : World} (h : Pt b X k w w') {B : Nat} (h1 : B ≤ b) (h2 : B ≤ X) (h3 : B ≤ w.heap.size) : Below B w w' := ⟨h.os, h.tape, h.output, h.size, fun j hj => h.block j (by omega) (by omega) (by omega)⟩
/-- where a text more lies -/
def PutF (b : Nat) (s : Sn) (ad : Option Addr) (cap X o : Nat) (ad' : Option Addr) (cap' X' o' : Nat) (w w' : World) : Prop :=
  (s.R.length < cap ∧ ad' = ad ∧ cap' = cap ∧ X' = X ∧ o' = o ∧ Pt b X (o + s.R.length) w w') ∨ (w.heap.size ≤ X' ∧ On b w w')
def Sn.add (s : Sn) (t : ByteArray) : Sn := { s with R := s.R ++ [t] }
theorem Rs.cells {w : World} {ad : Option Addr} {cap X o : Nat} {R : List ByteArray} (h : Rs w ad cap X o R) : ∀ j u, (R.map Value.string)[j]? = some u → w.cell? ⟨X, o + j, none⟩ = some u := by
  intro j u hj
  rw [List.getElem?_map] at hj
  cases hr : R[j]? with
  | none => rw [hr] at hj; cases hj
  | some t =>
    rw [hr] at hj
    obtain ⟨hlt, ht⟩ := List.getElem?_eq_some_iff.mp hr
    rw [h.c j hlt, ht]
    exact hj
theorem Rs.spare {w : World} {ad : Option Addr} {cap X o : Nat} {R : List ByteArray} (h : Rs w ad cap X o R) {k : Nat} (hk : k < cap) : (w.cell? ⟨X, o + k, none⟩).isSome = true ∧ w.frozen? ⟨X, o + k, none⟩ = false := by
  obtain ⟨cur, hc, hs⟩ := h.blk (by omega)
  have hlt : o + k < cur.size := by omega
  refine ⟨?_, ?_⟩
  · rw [cell_of_row w X (o + k) cur _ _ hc]
    simp [hlt]
  · simp [World.frozen?, hc]
theorem Rs.below {w w' : World} {ad : Option Addr} {cap X o : Nat} {R : List ByteArray} (h : Rs w ad cap X o R) (hb : Below w.heap.size w w') : Rs w' ad cap X o R := h.keep fun h0 => hb.block X (h.lt h0)
theorem Rs.none_ {w : World} {ad : Option Addr} {cap X o : Nat} {R : List ByteArray} (h : Rs w ad cap X o R) (hr : ¬ R.length < cap) : ad = none → R.length = 0 ∧ cap = 0 := by
  intro hn
  have h1 := h.le
  rcases Nat.eq_zero_or_pos cap with h0 | h0
  · omega
  · have h3 := h.at_ h0
    rw [hn] at h3
    cases h3
theorem Rs.olds {w : World} {ad : Option Addr} {cap X o : Nat} {R : List ByteArray} (h : Rs w ad cap X o R) : ∀ ba, ad = some ba → ∀ j u, (R.map Value.string)[j]? = some u → w.cell? (ba.add j) = some u := by
  intro ba hba j u hj
  have hlt : j < R.length := by
    have := (List.getElem?_eq_some_iff.mp hj).1
    simpa using this
  have h3 := h.at_ (by have := h.le; omega)
  rw [hba] at h3
  cases h3
  rw [Addr.add_lit]
  exact h.cells j u hj
/-- with room -/
theorem Sb.room {w w1 : World} {b : Nat} {s : Sn} {ad : Option Addr} {cap X o : Nat} (h : Sb w b s ad cap X o) (hc : s.R.length < cap) (hb : Below w.heap.size w w1) (t : ByteArray) :
    Sb ((w1.setCell ⟨X, o + s.R.length, none⟩ (.string t)).setCell ⟨b, 3, none⟩ (.slice ad (s.R.length + 1) cap)) b (s.add t) ad cap X o := by
  have hne := h.ne (by omega)
  have h1 : (w1.setCell ⟨X, o + s.R.length, none⟩ (.string t)).heap[b]? = some (.cells (scs s ad cap) 170 (0, 0)) := (Below.heap_setCell _ ⟨X, o + s.R.length, none⟩ _ b (Ne.symm hne)).trans ((hb.block b h.lt).trans h.cb)
  have h2 := heap_set_self _ b 3 (.slice ad (s.R.length + 1) cap) _ _ _ h1
  have hP := Pt.of (k := o + s.R.length) hb (h.rs.lt (by omega)) hne (.string t) (.slice ad (s.R.length + 1) cap) 3
  refine ⟨by simpa [scs, Sn.add] using h2, ⟨by show (s.R ++ [t]).length ≤ cap; simp; omega, h.rs.at_, fun h0 => ?_, fun i hi => ?_⟩⟩
  · obtain ⟨cur, hcur, hs⟩ := h.rs.blk h0
    obtain ⟨cur', h3, h4⟩ := hP.shape cur _ hcur
    exact ⟨cur', h3, by omega⟩
  · have hi' : i < (s.R ++ [t]).length := hi
    by_cases hlt : i < s.R.length
    · rw [hP.cell _ (by omega), h.rs.c i hlt]
      show _ = some (Value.string ((s.R ++ [t])[i]'hi'))
      rw [List.getElem_append_left hlt]
    · have hei : i = s.R.length := by simp at hi'; omega
      subst hei
      rw [World.cell?_of_block (w := w1.setCell ⟨X, o + s.R.length, none⟩ (.string t)) (a := ⟨X, o + s.R.length, none⟩) (Below.heap_setCell _ ⟨b, 3, none⟩ _ X hne)]
      have hsp := (h.rs.below hb).spare hc
      have h5 := World.cell?_setCells_in X [.string t] (o + s.R.length) w1 (fun j hj => by
        have : j = 0 := by simp at hj; omega
        subst this
        exact hsp.1) 0 (by simp)
      have h6 : (w1.setCells X (o + s.R.length) [.string t]).cell? ⟨X, o + s.R.length, none⟩ = some (.string t) := h5
      refine h6.trans ?_
      show _ = some (Value.string ((s.R ++ [t])[s.R.length]'hi'))
      simp
theorem own_form {w : World} {B : Nat} {e : TypeId} {size n : Nat} {v : Value} {xs : List Value} (h : w.ownsRow B e size v n xs) (hn : 0 < n) : ∃ g cap cur, v = .slice (some ⟨g, 0, none⟩) n cap ∧ B ≤ g ∧ w.heap[g]? = some (.cells cur e (0, 0)) ∧ n ≤ cap ∧ cur.size = cap * size ∧ cur.toList.take (n * size) = xs := by
  rcases h.2 with ⟨_, h0⟩ | ⟨g, cap, cur, hv, hb, hg, h1, _, h2, h3⟩
  · omega
  · exact ⟨g, cap, cur, hv, hb, hg, h1, h2, h3⟩
/-- a row that is owned, read -/
theorem own_rs {w : World} {g cap : Nat} {cur : Array Value} {R : List ByteArray} (hg : w.heap[g]? = some (.cells cur 9 (0, 0))) (hle : R.length ≤ cap) (hs : cur.size = cap * 1) (ht : cur.toList.take (R.length * 1) = R.map Value.string) : Rs w (some ⟨g, 0, none⟩) cap g 0 R := by
  refine ⟨hle, fun _ => rfl, fun _ => ⟨cur, hg, by omega⟩, fun i hi => ?_⟩
  rw [Nat.zero_add, cell_of_row w g i cur _ _ hg]
  have h1 : (cur.toList.take (R.length * 1))[i]? = some (.string R[i]) := by rw [ht, List.getElem?_map, List.getElem?_eq_getElem hi]; rfl
  rw [List.getElem?_take] at h1
  split at h1
  · rw [← Array.getElem?_toList]
    exact h1
  · cases h1
theorem grown_below {w w' : World} (h : w.grownBy w' none) : Below w.heap.size w w' := ⟨h.os, h.tape, h.output, h.size, fun k hk => h.block k hk (by simp)⟩
/-- grown -/
theorem Sb.grow {w w1 : World} {b : Nat} {s : Sn} {ad : Option Addr} {cap X o : Nat} (h : Sb w b s ad cap X o) (hb : Below w.heap.size w w1) (t : ByteArray) {g c : Nat} {cur : Array Value} (hg : w1.heap[g]? = some (.cells cur 9 (0, 0))) (hle : s.R.length + 1 ≤ c) (hs : cur.size = c * 1) (ht : cur.toList.take ((s.R.length + 1) * 1) = (s.R ++ [t]).map Value.string) :
    Sb (w1.setCell ⟨b, 3, none⟩ (.slice (some ⟨g, 0, none⟩) (s.R.length + 1) c)) b (s.add t) (some ⟨g, 0, none⟩) c g 0 := by
  have h1 := (hb.block b h.lt).trans h.cb
  have h2 := heap_set_self _ b 3 (.slice (some ⟨g, 0, none⟩) (s.R.length + 1) c) _ _ _ h1
  have hne : g ≠ b := blk_ne hg h1 (by decide)
  refine ⟨by simpa [scs, Sn.add] using h2, ?_⟩
  exact (own_rs (R := s.R ++ [t]) hg (by simpa using hle) hs (by simpa using ht)).keep fun _ => Below.heap_setCell _ ⟨b, 3, none⟩ _ g hne

set_option maxHeartbeats 2000000 in
set_option maxRecDepth 8000 in
theorem put_any {w : World} {b : Nat} {s : Sn} {ad : Option Addr} {cap X o : Nat} (hk : s.R.length ≤ 32) (h : Sb w b s ad cap X o) (t : ByteArray) :
    Calls Tryz.prog 157 #[.pointer (some ⟨b, 2, none⟩), .string t] w fun e w' => e = .returned (.tuple #[]) ∧ ∃ ad' cap' X' o', Sb w' b (s.add t) ad' cap' X' o' ∧ PutF b s ad cap X o ad' cap' X' o' w w' := by
  have c3 := h.c3
  have z3 := h.z 3
  have hlt := h.lt
  have HH := hide h
  clear h
  obtain ⟨iS, hiS, zS0, zS1, zS2⟩ := info_parts Tryz.infoS
  have HB1 : Hid (Below w.heap.size w (w.alloc (.cells #[.string t] 9))) := hide (below_alloc w _)
  by_cases hr : s.R.length < cap
  · have had := HH.out.rs.at_ (by omega)
    have HR := hide hr
    have hlX := HH.out.rs.lt (by omega)
    have hne := HH.out.ne (by omega)
    subst had
    have HW := hide (HH.out.room HR.out HB1.out t)
    have HP := hide (Pt.of (k := o + s.R.length) HB1.out hlX hne (.string t) (.slice (some ⟨X, o, none⟩) (s.R.length + 1) cap) 3)
    have k3 : (w.alloc (.cells #[.string t] 9)).setCells X (o + s.R.length) [.string t] = (w.alloc (.cells #[.string t] 9)).setCell ⟨X, o + s.R.length, none⟩ (.string t) := rfl
    have y3 : ((w.alloc (.cells #[.string t] 9)).setCells X (o + s.R.length) [.string t]).heap[b]? = some (.cells (scs s (some ⟨X, o, none⟩) cap) 170 (0, 0)) := (Below.heap_setCell _ ⟨X, o + s.R.length, none⟩ _ b (Ne.symm hne)).trans ((HB1.out.block b hlt).trans HH.out.cb)
    have y4 : ((w.alloc (.cells #[.string t] 9)).setCells X (o + s.R.length) [.string t]).cell? ⟨b, 3, none⟩ = some (.slice (some ⟨X, o, none⟩) s.R.length cap) := by simp only [World.cell?, y3]; rfl
    have y5 : ((w.alloc (.cells #[.string t] 9)).setCells X (o + s.R.length) [.string t]).frozen? ⟨b, 3, none⟩ = false := by simp [World.frozen?, y3]
    have HK := hide k3
    clear k3 y3
    go_enter Tryz.func157, Tryz.ntmps157
    clear hr
    go_wp2_with (at_builtin; refine wpList_append_arg _ rfl _ _ 57 rfl 9 iS (.string ByteArray.empty) 1 16 Tryz.underlying57 hiS zS0 zS1 zS2 rfl (by decide) X o s.R.length cap (s.R.map Value.string) rfl (by simp) (Rs.cells (HH.out.rs.below HB1.out)) ⟨w.heap.size, 0, none⟩ 1 1 [.string t] rfl rfl (one_new _ _ _) (by intro u hu; simp at hu; subst hu; rfl) (fun _ j hj => by obtain rfl : j = 0 := (by simp at hj; omega); rw [Nat.mul_one, Nat.add_zero]; exact (HH.out.rs.below HB1.out).spare HR.out) (by unfold maxLen; omega) (by omega) (fun _ => ?_) (fun hg => absurd hg (by have := HR.out; omega)))
    go_end0
    rw [HK.out]
    exact ⟨rfl, _, _, _, _, HW.out, .inl ⟨HR.out, rfl, rfl, rfl, rfl, HP.out⟩⟩
  · have HR := hide hr
    go_enter Tryz.func157, Tryz.ntmps157
    clear hr
    go_wp2_with (at_builtin; go_loud (refine wpList_append_grows _ rfl _ _ 57 rfl 9 iS (.string ByteArray.empty) 1 16 Tryz.underlying57 hiS zS0 zS1 zS2 rfl (by decide) ad s.R.length cap (s.R.map Value.string) rfl (HH.out.rs.none_ HR.out) (by simp) ((HH.out.rs.below HB1.out).olds) ⟨w.heap.size, 0, none⟩ 1 1 [.string t] rfl rfl (one_new _ _ _) (by intro u hu; simp at hu; subst hu; rfl) (by have := HR.out; omega) (by unfold maxLen; omega) (by omega) ?_; intro v1 w1 hown1 hgr1; have hB2 := HB1.out.trans ((grown_below hgr1).mono (by rw [World.size_alloc]; omega)); obtain ⟨g, c, cur, rfl, hbg, hg, hle, hs, ht⟩ := own_form hown1 (by omega); have HW := hide (HH.out.grow hB2 t hg hle hs (by rw [ht]; simp)); have HO : Hid (On b w (w1.setCell ⟨b, 3, none⟩ (.slice (some ⟨g, 0, none⟩) (s.R.length + 1) c))) := hide ((On.of_below hB2).set _ _); have y3 := (hB2.block b hlt).trans HH.out.cb; have y4 : w1.cell? ⟨b, 3, none⟩ = some (.slice ad s.R.length cap) := (by simp only [World.cell?, y3]; rfl); have y5 : w1.frozen? ⟨b, 3, none⟩ = false := (by simp [World.frozen?, y3]); have HG : Hid (w.heap.size ≤ g) := hide (by rw [World.size_alloc] at hbg; omega); clear y3 hB2 hown1 hgr1 hg hle hs ht hbg))
    go_end0
    exact ⟨rfl, _, _, _, _, HW.out, .inr ⟨HG.out, HO.out⟩⟩
end Go.Proofs.YtkfnedhllfdghaaGreatDoor.CH
end

section
namespace Go.Proofs.YtkfnedhllfdghaaGreatDoor.CH
set_option maxRecDepth 20000
open Go.RowKit

set_option maxHeartbeats 2000000 in
set_option maxRecDepth 8000 in
theorem piece_any {w : World} {b : Nat} {s : Sn} {ad : Option Addr} {cap X o : Nat} (hk : s.go + s.R.length ≤ 32) (h : Sb w b s ad cap X o) {a c : Int} {f t : Nat} (ha : a - (s.go : Int) = (f : Int)) (hc : c - (s.go : Int) = (t : Int)) (h1 : f ≤ t) (h2 : t ≤ s.R.length) :
    Calls Tryz.prog 128 #[.pointer (some ⟨b, 2, none⟩), .int .i64 a, .int .i64 c] w fun e w' => ∃ ad', e = .returned (.slice ad' (t - f) (t - f)) ∧ (f < t → ad' = some ⟨X, o + f, none⟩) ∧ ∃ m, w' = w.drewN m := by
  have c2 := h.c2
  have c3 := h.c3
  have hle := h.rs.le
  have HA := hide h.rs.at_
  clear h
  have f32 : f ≤ 32 := by omega
  have t32 : t ≤ 32 := by omega
  have tc : t ≤ cap := by omega
  have HN := hide hle
  have HK := hide hk
  have H2 := hide h2
  clear hk h2 hle
  by_cases hft : f = t
  · subst hft
    clear h1 t32
    go_enter Tryz.func128, Tryz.ntmps128
    go_wp2
    go_quiet (fail)
    go_wp2
    go_ret
    exact ⟨ad, by rw [Nat.sub_self]; rfl, fun h => absurd h (by omega), _, rfl⟩
  · have hft2 : ¬ t = f := fun e => hft e.symm
    have had := HA.out (by omega)
    subst had
    go_enter Tryz.func128, Tryz.ntmps128
    go_wp2
    go_quiet (fail)
    go_wp2
    go_ret
    exact ⟨_, rfl, fun h => rfl, _, rfl⟩
set_option maxHeartbeats 2000000 in
set_option maxRecDepth 8000 in
theorem leave_any {w : World} {b : Nat} {s : Sn} {ad : Option Addr} {cap X o : Nat} (hk : s.go + s.R.length ≤ 32) (h : Sb w b s ad cap X o) {k : Nat} (h1 : s.go ≤ k) (h2 : k ≤ s.go + s.R.length) :
    Calls Tryz.prog 187 #[.pointer (some ⟨b, 2, none⟩), .int .i64 (k : Int)] w fun e w' => e = .returned (.tuple #[]) ∧ (∃ ad', Sb w' b { s with go := k, R := s.R.drop (k - s.go) } ad' (s.R.length - (k - s.go)) X (o + (k - s.go))) ∧ On b w w' := by
  have HE := hide (end_any hk h)
  have HP : Hid (∀ m, Calls Tryz.prog 128 #[.pointer (some ⟨b, 2, none⟩), .int .i64 (k : Int), .int .i64 (s.len : Int)] (w.drewN m) fun e w' => ∃ ad', e = .returned (.slice ad' (s.R.length - (k - s.go)) (s.R.length - (k - s.go))) ∧ (k - s.go < s.R.length → ad' = some ⟨X, o + (k - s.go), none⟩) ∧ ∃ n, w' = (w.drewN m).drewN n) := hide fun m => piece_any hk (h.drewN m) (by omega) (by unfold Sn.len; omega) (by omega) (by omega)
  have z2 := h.z 2
  have z3 := h.z 3
  have c2 := h.c2
  have c3 := h.c3
  have HH := hide h
  clear h hk
  go_enter Tryz.func187, Tryz.ntmps187
  go_wp2_with fail
  refine HE.out.mono ?_
  rintro e w1 ⟨rfl, m, rfl⟩
  go_wp2_with fail
  refine (HP.out m).mono ?_
  rintro e w2 ⟨ad', rfl, hat, n, rfl⟩
  have HAt := hide hat
  clear hat HP HE
  obtain ⟨d, hd⟩ : ∃ d, k - s.go = d := ⟨_, rfl⟩
  rw [hd] at HAt ⊢
  have hkd : k = s.go + d := by omega
  have HD : Hid (d ≤ s.R.length) := hide (by omega)
  obtain ⟨q, hq⟩ : ∃ q, s.R.length - d = q := ⟨_, rfl⟩
  have HQ := hide hq
  rw [hq]
  have HKD := hide hkd
  have HD0 := hide hd
  clear hd hkd hq h1 h2
  go_wp2_with fail
  go_end0
  rw [HD0.out, HQ.out]
  refine ⟨rfl, ⟨ad', ?_⟩, ?_⟩
  · have hb := HH.out.cb
    have e1 := heap_set_self _ b 3 (.slice ad' q q) _ _ _ hb
    have e2 := heap_set_self _ b 2 (.int .i64 (k : Int)) _ _ _ e1
    have hl : (s.R.drop d).length = q := by rw [List.length_drop]; exact HQ.out
    refine ⟨?_, ?_⟩
    · have : scs { s with go := k, R := s.R.drop d } ad' q = ((scs s ad cap).setIfInBounds 3 (.slice ad' q q)).setIfInBounds 2 (.int .i64 (k : Int)) := by simp [scs, hl]
      rw [this]
      exact e2
    · have hp := HH.out.rs.piece (f := d) (t := s.R.length) HD.out (Nat.le_refl _) ad' HAt.out
      rw [HQ.out] at hp
      have hR : (s.R.drop d).take q = s.R.drop d := List.take_of_length_le (by omega)
      rw [hR] at hp
      refine hp.keep fun h0 => ?_
      have hne := HH.out.ne (by have := HH.out.rs.le; have := HQ.out; omega)
      exact (Below.heap_setCell _ ⟨b, 2, none⟩ _ X hne).trans (Below.heap_setCell _ ⟨b, 3, none⟩ _ X hne)
  · exact ((((On.refl b w).set 3 (.slice ad' q q))).set 2 (.int .i64 (k : Int))).drewN _
set_option maxHeartbeats 2000000 in
set_option maxRecDepth 8000 in
theorem we_any {w : World} {b : Nat} {s : Sn} {ad : Option Addr} {cap X o : Nat} (hk : s.ok) (h : Sb w b s ad cap X o) :
    Calls Tryz.prog 127 #[.pointer (some ⟨b, 0, none⟩)] w fun e w' => e = .returned (.int .i64 (s.we : Int)) ∧ ∃ m, w' = w.drewN m := by
  have c0 := h.c0
  have HA : Hid (∀ n, Calls Tryz.prog 82 #[.pointer (some ⟨b, 0, none⟩)] (w.drewN n) fun e w' => e = .returned (.int .i64 (s.go : Int)) ∧ w' = w.drewN n) := hide fun n => acked_any (h.drewN n)
  have HL : Hid (∀ n, Calls Tryz.prog 81 #[.pointer (some ⟨b, 0, none⟩)] (w.drewN n) fun e w' => e = .returned (.int .i64 (s.len : Int)) ∧ ∃ m, w' = (w.drewN n).drewN m) := hide fun n => len_any hk.l (h.drewN n)
  obtain ⟨n, hn⟩ : ∃ n, s.len = n := ⟨_, rfl⟩
  have h32 : n ≤ 32 := by rw [← hn]; exact hk.l
  have hw8 := hk.w8
  have hg : s.go ≤ 32 := by have := hk.l; omega
  have hwe : s.we = min (s.go + s.wd) n := by unfold Sn.we; rw [hn]
  rw [hn] at HL
  rw [hwe]
  clear h hk hn hwe
  by_cases hlt : n < s.go + s.wd
  · rw [Nat.min_eq_right (by omega)]
    go_enter Tryz.func127, Tryz.ntmps127
    go_wp2
    go_quiet (first | (go_at_call 82; exact Calls.quiet_of_same (HA.out _)) | (go_at_call 81; exact Calls.quiet_of (HL.out _)))
    go_wp2
    go_ret
    exact ⟨by simp, _, rfl⟩
  · rw [Nat.min_eq_left (by omega)]
    go_enter Tryz.func127, Tryz.ntmps127
    go_wp2
    go_quiet (first | (go_at_call 82; exact Calls.quiet_of_same (HA.out _)) | (go_at_call 81; exact Calls.quiet_of (HL.out _)))
    go_wp2
    go_ret
    exact ⟨by simp, _, rfl⟩
set_option maxHeartbeats 2000000 in
set_option maxRecDepth 8000 in
theorem room_any {w : World} {b : Nat} {s : Sn} {ad : Option Addr} {cap X o : Nat} (hk : s.ok) (h : Sb w b s ad cap X o) :
    Calls Tryz.prog 124 #[.pointer (some ⟨b, 0, none⟩)] w fun e w' => e = .returned (.bool (decide (s.R.length < s.wd))) ∧ ∃ m, w' = w.drewN m := by
  have c0 := h.c0
  have HA : Hid (∀ n, Calls Tryz.prog 82 #[.pointer (some ⟨b, 0, none⟩)] (w.drewN n) fun e w' => e = .returned (.int .i64 (s.go : Int)) ∧ w' = w.drewN n) := hide fun n => acked_any (h.drewN n)
  have HL : Hid (∀ n, Calls Tryz.prog 81 #[.pointer (some ⟨b, 0, none⟩)] (w.drewN n) fun e w' => e = .returned (.int .i64 (s.len : Int)) ∧ ∃ m, w' = (w.drewN n).drewN m) := hide fun n => len_any hk.l (h.drewN n)
  obtain ⟨n, hn⟩ : ∃ n, s.len = n := ⟨_, rfl⟩
  have h32 : s.R.length ≤ 32 := by have := hk.l; omega
  have hq2 : (n : Int) - (s.go : Int) = (s.R.length : Int) := by rw [← hn]; unfold Sn.len; omega
  rw [hn] at HL
  clear h hk hn
  go_enter Tryz.func124, Tryz.ntmps124
  go_wp2
  go_quiet (first | (go_at_call 82; exact Calls.quiet_of_same (HA.out _)) | (go_at_call 81; exact Calls.quiet_of (HL.out _)))
  go_wp2
  go_ret
  exact ⟨by simp, _, rfl⟩
end Go.Proofs.YtkfnedhllfdghaaGreatDoor.CH
end

section
namespace Go.Proofs.YtkfnedhllfdghaaGreatDoor.CH
set_option maxRecDepth 20000
open Go.RowKit

theorem two0 {w : World} {B : Nat} {u v : Value} {t : TypeId} (h : w.heap[B]? = some (.cells #[u, v] t (0, 0))) : w.cell? ⟨B, 0, none⟩ = some u := by simp [World.cell?, h]
theorem two1 {w : World} {B : Nat} {u v : Value} {t : TypeId} (h : w.heap[B]? = some (.cells #[u, v] t (0, 0))) : w.cell? ⟨B, 1, none⟩ = some v := by simp [World.cell?, h]
theorem twoz {w : World} {B : Nat} {u v : Value} {t : TypeId} (h : w.heap[B]? = some (.cells #[u, v] t (0, 0))) (k : Nat) : w.frozen? ⟨B, k, none⟩ = false := by simp [World.frozen?, h]
theorem two_set {w : World} {B : Nat} {u v : Value} {t : TypeId} (h : w.heap[B]? = some (.cells #[u, v] t (0, 0))) (x y : Value) : ((w.setCell ⟨B, 0, none⟩ x).setCell ⟨B, 1, none⟩ y).heap[B]? = some (.cells #[x, y] t (0, 0)) :=
  heap_set_self _ B 1 y _ _ _ (heap_set_self w B 0 x _ _ _ h)
theorem Sb.setO {w : World} {b : Nat} {s : Sn} {ad : Option Addr} {cap X o : Nat} (h : Sb w b s ad cap X o) {B : Nat} (hn : X < B ∧ b < B ∨ b < B ∧ cap = 0) (i j : Nat) (x y : Value) : Sb ((w.setCell ⟨B, i, none⟩ x).setCell ⟨B, j, none⟩ y) b s ad cap X o := by
  have e : ∀ k, k < B → ((w.setCell ⟨B, i, none⟩ x).setCell ⟨B, j, none⟩ y).heap[k]? = w.heap[k]? := fun k hk => (Below.heap_setCell _ ⟨B, j, none⟩ _ k (Nat.ne_of_lt hk)).trans (Below.heap_setCell _ ⟨B, i, none⟩ _ k (Nat.ne_of_lt hk))
  exact ⟨(e b (by omega)).trans h.cb, h.rs.keep fun h0 => e X (by omega)⟩
theorem below_set2 {B n : Nat} {w w' : World} (h : Below n w w') (hn : n ≤ B) (i j : Nat) (x y : Value) : Below n w ((w'.setCell ⟨B, i, none⟩ x).setCell ⟨B, j, none⟩ y) :=
  ⟨h.os, h.tape, h.output, by rw [setCell_size, setCell_size]; exact h.size, fun k hk => (Below.heap_setCell _ ⟨B, j, none⟩ _ k (by show k ≠ B; omega)).trans ((Below.heap_setCell _ ⟨B, i, none⟩ _ k (by show k ≠ B; omega)).trans (h.block k hk))⟩
theorem results_c {fn : Func} {p : Tmp} {ty : TypeId} (h : fn.results = #[.cell p ty]) (tmps : Array Value) (P : Program) (w : World) :
    (results fn tmps).run P w = ((asAddr (tmps.getD p undef)).run P w).andThen fun a w₁ => (loadVar ty a).run P w₁ := by
  simp only [results, h]
  simp [Sem.run_bind, Result.andThen]
theorem SS.dr {w : World} {b : Nat} {s : Sn} {ad : Option Addr} {cap X o : Nat} {w0 V1 : World} {B m : Nat} (h : Sb w b s ad cap X o ∧ Below w0.heap.size w0 w ∧ ∃ u v, w.heap[B]? = some (.cells #[u, v] 168 (0, 0))) (e : V1 = w.drewN m) : Sb V1 b s ad cap X o ∧ Below w0.heap.size w0 V1 ∧ ∃ u v, V1.heap[B]? = some (.cells #[u, v] 168 (0, 0)) := by
  subst e
  exact ⟨h.1.drewN _, below_drewN h.2.1 _, h.2.2⟩
set_option maxHeartbeats 2000000 in
set_option maxRecDepth 8000 in
theorem qclone_any {w : World} {b : Nat} {s : Sn} {ad : Option Addr} {cap X o : Nat} (hk : s.go + s.R.length ≤ 32) (h : Sb w b s ad cap X o) :
    Calls Tryz.prog 121 #[.pointer (some ⟨b, 2, none⟩)] w fun e w' => ∃ ad', e = .returned (.agg #[.int .i64 (s.go : Int), .slice ad' s.R.length s.R.length]) ∧ (0 < s.R.length → ad' = some ⟨X, o, none⟩) ∧ Below w.heap.size w w' := by
  have HK := hide hk
  obtain ⟨B, hB⟩ : ∃ B, w.heap.size = B := ⟨_, rfl⟩
  have HLB : Hid (X < B ∧ b < B ∨ b < B ∧ cap = 0) := hide (by have h1 := h.lt; by_cases h0 : 0 < cap; (have := h.rs.lt h0; omega); omega)
  have HLo : Hid (w.heap.size ≤ B) := hide (by omega)
  have HS : Hid (Sb (w.alloc (.cells #[.int .i64 0, .slice none 0 0] 168)).drew b s ad cap X o ∧ Below w.heap.size w (w.alloc (.cells #[.int .i64 0, .slice none 0 0] 168)).drew ∧ ∃ u v, (w.alloc (.cells #[.int .i64 0, .slice none 0 0] 168)).drew.heap[B]? = some (.cells #[u, v] 168 (0, 0))) := hide ⟨(h.below (below_alloc w _)).drew, below_drew (below_alloc w _), _, _, by rw [← hB]; exact heap_alloc_new w _⟩
  clear h hk
  go_enter Tryz.func121, Tryz.ntmps121
  go_wp2
  clear hB
  generalize w.alloc (.cells #[.int .i64 0, .slice none 0 0] 168) = W at *
  refine wp_region_held_drew (S := fun w' => Sb w' b s ad cap X o ∧ Below w.heap.size w w' ∧ ∃ u v, w'.heap[B]? = some (.cells #[u, v] 168 (0, 0))) (by kernel_rfl) (HS.out) (fun hHeld => ?_)
  refine wpAnyH_take (i := 0) (v := .pointer (some ⟨b, 2, none⟩)) rfl (by kernel_rfl) (by kernel_rfl) (by kernel_rfl) (fun _ _ _ h => h) (Or.inl ⟨by kernel_rfl, fun w1 hSw => by clear hHeld; have k0 := hSw.1.c2; go_simp⟩) hHeld ?_
  try simp only [Act.put]
  try simp only [List.getElem_toArray]
  try simp only [List.getElem_cons_succ]
  try simp only [List.getElem_cons_zero]
  try simp only [List.setIfInBounds_toArray]
  try simp only [List.set_cons_succ, List.set_cons_zero]
  refine wpAnyH_take (i := 1) (v := .pointer (some ⟨b, 2, none⟩)) rfl (by kernel_rfl) (by kernel_rfl) (by kernel_rfl) (fun _ _ _ h => h) (Or.inl ⟨by kernel_rfl, fun w1 hSw => by clear hHeld; have k0 := hSw.1.c2; go_simp⟩) hHeld ?_
  try simp only [Act.put]
  try simp only [List.getElem_toArray]
  try simp only [List.getElem_cons_succ]
  try simp only [List.getElem_cons_zero]
  try simp only [List.setIfInBounds_toArray]
  try simp only [List.set_cons_succ, List.set_cons_zero]
  refine wpAnyH_take (i := 2) (v := .pointer (some ⟨b, 2, none⟩)) rfl (by kernel_rfl) (by kernel_rfl) (by kernel_rfl) (fun _ _ _ h => h) (Or.inl ⟨by kernel_rfl, fun w1 hSw => by clear hHeld; have k0 := hSw.1.c2; go_simp⟩) hHeld ?_
  try simp only [Act.put]
  try simp only [List.getElem_toArray]
  try simp only [List.getElem_cons_succ]
  try simp only [List.getElem_cons_zero]
  try simp only [List.setIfInBounds_toArray]
  try simp only [List.set_cons_succ, List.set_cons_zero]
  refine wpAnyH_take (i := 3) (v := .int .i64 (s.go : Int)) rfl (by kernel_rfl) (by kernel_rfl) (by kernel_rfl) (fun _ _ _ h => h) (Or.inl ⟨by kernel_rfl, fun w1 hSw => by clear hHeld; have k0 := hSw.1.c2; go_simp⟩) hHeld ?_
  try simp only [Act.put]
  try simp only [List.getElem_toArray]
  try simp only [List.getElem_cons_succ]
  try simp only [List.getElem_cons_zero]
  try simp only [List.setIfInBounds_toArray]
  try simp only [List.set_cons_succ, List.set_cons_zero]
  refine wpAnyH_take (i := 4) (v := .pointer (some ⟨b, 2, none⟩)) rfl (by kernel_rfl) (by kernel_rfl) (by kernel_rfl) (fun _ _ _ h => h) (Or.inl ⟨by kernel_rfl, fun w1 hSw => by clear hHeld; have k0 := hSw.1.c2; go_simp⟩) hHeld ?_
  try simp only [Act.put]
  try simp only [List.getElem_toArray]
  try simp only [List.getElem_cons_succ]
  try simp only [List.getElem_cons_zero]
  try simp only [List.setIfInBounds_toArray]
  try simp only [List.set_cons_succ, List.set_cons_zero]
  refine wpAnyH_take (i := 5) (v := .pointer (some ⟨b, 2, none⟩)) rfl (by kernel_rfl) (by kernel_rfl) (by kernel_rfl) (fun _ _ _ h => h) (Or.inl ⟨by kernel_rfl, fun w1 hSw => by clear hHeld; have k0 := hSw.1.c2; go_simp⟩) hHeld ?_
  try simp only [Act.put]
  try simp only [List.getElem_toArray]
  try simp only [List.getElem_cons_succ]
  try simp only [List.getElem_cons_zero]
  try simp only [List.setIfInBounds_toArray]
  try simp only [List.set_cons_succ, List.set_cons_zero]
  refine wpAnyH_take (i := 6) (v := .pointer (some ⟨b, 2, none⟩)) rfl (by kernel_rfl) (by kernel_rfl) (by kernel_rfl) (fun _ _ _ h => h) (Or.inl ⟨by kernel_rfl, fun w1 hSw => by clear hHeld; have k0 := hSw.1.c2; go_simp⟩) hHeld ?_
  try simp only [Act.put]
  try simp only [List.getElem_toArray]
  try simp only [List.getElem_cons_succ]
  try simp only [List.getElem_cons_zero]
  try simp only [List.setIfInBounds_toArray]
  try simp only [List.set_cons_succ, List.set_cons_zero]
  refine wpAnyH_take (i := 7) (v := .pointer (some ⟨b, 2, none⟩)) rfl (by kernel_rfl) (by kernel_rfl) (by kernel_rfl) (fun _ _ _ h => h) (Or.inl ⟨by kernel_rfl, fun w1 hSw => by clear hHeld; have k0 := hSw.1.c2; go_simp⟩) hHeld ?_
  try simp only [Act.put]
  try simp only [List.getElem_toArray]
  try simp only [List.getElem_cons_succ]
  try simp only [List.getElem_cons_zero]
  try simp only [List.setIfInBounds_toArray]
  try simp only [List.set_cons_succ, List.set_cons_zero]
  refine wpAnyH_take (i := 8) (v := .int .i64 (s.go : Int)) rfl (by kernel_rfl) (by kernel_rfl) (by kernel_rfl) (fun _ _ _ h => h) (Or.inl ⟨by kernel_rfl, fun w1 hSw => by clear hHeld; have k0 := hSw.1.c2; go_simp⟩) hHeld ?_
  try simp only [Act.put]
  try simp only [List.getElem_toArray]
  try simp only [List.getElem_cons_succ]
  try simp only [List.getElem_cons_zero]
  try simp only [List.setIfInBounds_toArray]
  try simp only [List.set_cons_succ, List.set_cons_zero]
  refine wpAnyH_take (i := 9) (v := .pointer (some ⟨b, 2, none⟩)) rfl (by kernel_rfl) (by kernel_rfl) (by kernel_rfl) (fun _ _ _ h => h) (Or.inl ⟨by kernel_rfl, fun w1 hSw => by clear hHeld; have k0 := hSw.1.c2; go_simp⟩) hHeld ?_
  try simp only [Act.put]
  try simp only [List.getElem_toArray]
  try simp only [List.getElem_cons_succ]
  try simp only [List.getElem_cons_zero]
  try simp only [List.setIfInBounds_toArray]
  try simp only [List.set_cons_succ, List.set_cons_zero]
  refine wpAnyH_ready (rs := [10]) (by kernel_rfl) (by simp) ?_
  refine AllReadyH.cons rfl (fun K hK => ?_) AllReadyH.nil
  go_simp
  refine (end_any HK.out hHeld.1).mono ?_
  rintro e V1 ⟨rfl, m1, hV1⟩
  have HS1 := hide (SS.dr hHeld hV1)
  clear hV1
  refine hK.out _ _ (HS1.out) (fun hHeld => ?_)
  clear hK K
  try simp only [Act.put]
  try simp only [List.getElem_toArray]
  try simp only [List.getElem_cons_succ]
  try simp only [List.getElem_cons_zero]
  try simp only [List.setIfInBounds_toArray]
  try simp only [List.set_cons_succ, List.set_cons_zero]
  refine wpAnyH_ready (rs := [11]) (by kernel_rfl) (by simp) ?_
  refine AllReadyH.cons rfl (fun K hK => ?_) AllReadyH.nil
  go_simp
  refine (piece_any HK.out hHeld.1 (a := (s.go : Int)) (c := (s.len : Int)) (f := 0) (t := s.R.length) (by omega) (by unfold Sn.len; omega) (Nat.zero_le _) (Nat.le_refl _)).mono ?_
  rintro e V2 ⟨ad', rfl, hat, m2, hV2⟩
  have HAt := hide hat
  have HS2 := hide (SS.dr hHeld hV2)
  clear hat hV2
  rw [Nat.sub_zero]
  refine hK.out _ _ (HS2.out) (fun hHeld => ?_)
  clear hK K
  try simp only [Act.put]
  try simp only [List.getElem_toArray]
  try simp only [List.getElem_cons_succ]
  try simp only [List.getElem_cons_zero]
  try simp only [List.setIfInBounds_toArray]
  try simp only [List.set_cons_succ, List.set_cons_zero]
  refine wpAnyH_take (i := 12) (v := .agg #[.int .i64 (s.go : Int), .slice ad' s.R.length s.R.length]) rfl (by kernel_rfl) (by kernel_rfl) (by kernel_rfl) (fun _ _ _ h => h) (Or.inl ⟨by kernel_rfl, fun w1 hSw => by clear hHeld; have k0 := hSw.1.c2; go_simp⟩) hHeld ?_
  try simp only [Act.put]
  try simp only [List.getElem_toArray]
  try simp only [List.getElem_cons_succ]
  try simp only [List.getElem_cons_zero]
  try simp only [List.setIfInBounds_toArray]
  try simp only [List.set_cons_succ, List.set_cons_zero]
  refine wpAnyH_ready (rs := [13]) (by kernel_rfl) (by simp) ?_
  refine AllReadyH.cons rfl (fun K hK => ?_) AllReadyH.nil
  obtain ⟨u, v, hB⟩ := hHeld.2.2
  have b0 := two0 hB
  have b1 := two1 hB
  have bz := twoz hB
  have HB2 := hide hB
  have HS3 := hide hHeld
  clear hB hHeld
  go_simp
  have HB3 := hide (two_set HB2.out (.int .i64 (s.go : Int)) (.slice ad' s.R.length s.R.length))
  refine hK.out _ _ (⟨HS3.out.1.setO HLB.out _ _ _ _, below_set2 HS3.out.2.1 HLo.out _ _ _ _, _, _, HB3.out⟩) (fun hHeld => ?_)
  clear hK K
  try simp only [Act.put]
  try simp only [List.getElem_toArray]
  try simp only [List.getElem_cons_succ]
  try simp only [List.getElem_cons_zero]
  try simp only [List.setIfInBounds_toArray]
  try simp only [List.set_cons_succ, List.set_cons_zero]
  refine wpAnyH_done (by kernel_rfl) ?_ _
  have g0 := two0 HB3.out
  have g1 := two1 HB3.out
  have HBe := hide hHeld.2.1
  go_wp2
  refine bodyPost_ret (by rw [results_c (fn := Tryz.f121) rfl]; go_simp; rfl) rfl ?_
  exact ⟨ad', rfl, fun h0 => by have := HAt.out h0; simpa using this, HBe.out⟩
set_option maxHeartbeats 2000000 in
set_option maxRecDepth 8000 in
theorem sclone_any {w : World} {b : Nat} {s : Sn} {ad : Option Addr} {cap X o : Nat} (hk : s.go + s.R.length ≤ 32) (h : Sb w b s ad cap X o) :
    Calls Tryz.prog 71 #[.pointer (some ⟨b, 0, none⟩)] w fun e w' => e = .returned (.pointer (some ⟨w.heap.size, 0, none⟩)) ∧ (∃ ad', Sb w' w.heap.size s ad' s.R.length X o) ∧ Below w.heap.size w w' := by
  have HK := hide hk
  have HH := hide h
  have c0 := h.c0
  have c1 := h.c1
  have c2 := h.c2
  have c3 := h.c3
  have c4 := h.c4
  have c5 := h.c5
  have hl := h.lt
  have HQ := hide (qclone_any hk (h.below (below_alloc w (.cells (scs s ad cap) 170))))
  have HB1 : Hid (Below w.heap.size w (w.alloc (.cells (scs s ad cap) 170))) := hide (below_alloc w _)
  have HN1 : Hid ((w.alloc (.cells (scs s ad cap) 170)).heap[w.heap.size]? = some (.cells (scs s ad cap) 170 (0, 0))) := hide (heap_alloc_new w _)
  clear h hk
  unfold scs at HQ HB1 HN1
  go_enter Tryz.func71, Tryz.ntmps71
  go_wp2_with fail
  refine HQ.out.mono ?_
  rintro e w2 ⟨ad', rfl, hat, hB2⟩
  have hB3 := HB1.out.trans (hB2.mono (by rw [World.size_alloc]; omega))
  have hN2 : w2.heap[w.heap.size]? = some (.cells (scs s ad cap) 170 (0, 0)) := (hB2.block w.heap.size (by rw [World.size_alloc]; omega)).trans HN1.out
  have HN2 := hide hN2
  have HB3 := hide hB3
  have HAt := hide hat
  obtain ⟨B, hB⟩ : ∃ B, w.heap.size = B := ⟨_, rfl⟩
  have d2 : w2.cell? ⟨B, 2, none⟩ = some (.int .i64 (s.go : Int)) := by rw [← hB]; simp [World.cell?, hN2, scs]
  have d3 : w2.cell? ⟨B, 3, none⟩ = some (.slice ad s.R.length cap) := by rw [← hB]; simp [World.cell?, hN2, scs]
  have dz : ∀ k, w2.frozen? ⟨B, k, none⟩ = false := fun k => by rw [← hB]; simp [World.frozen?, hN2]
  have HBe := hide hB
  have dz2 := dz 2
  have dz3 := dz 3
  clear dz hN2 hB3 hB2 hat HQ HB1 HN1
  go_wp2_with fail
  go_ret
  have hb := HBe.out
  subst hb
  refine ⟨rfl, ⟨ad', ?_, ?_⟩, ?_⟩
  · have e1 := heap_set_self _ w.heap.size 2 (.int .i64 (s.go : Int)) _ _ _ HN2.out
    have e2 := heap_set_self _ w.heap.size 3 (.slice ad' s.R.length s.R.length) _ _ _ e1
    exact e2
  · have hp := HH.out.rs.piece (f := 0) (t := s.R.length) (Nat.zero_le _) (Nat.le_refl _) ad' (fun h0 => by rw [Nat.add_zero]; exact HAt.out h0)
    rw [Nat.sub_zero, Nat.add_zero, List.drop_zero, List.take_of_length_le (Nat.le_refl _)] at hp
    refine hp.keep fun h0 => ?_
    have hX := HH.out.rs.lt (by have := HH.out.rs.le; omega)
    exact (Below.heap_setCell _ ⟨w.heap.size, 3, none⟩ _ X (Nat.ne_of_lt hX)).trans ((Below.heap_setCell _ ⟨w.heap.size, 2, none⟩ _ X (Nat.ne_of_lt hX)).trans (HB3.out.block X hX))
  · exact below_set2 HB3.out (Nat.le_refl _) _ _ _ _
def Sn.putE (s : Sn) (t : ByteArray) : Int := if 32 < t.size then 142 else if 32 ≤ s.len then 141 else 0
def Sn.put (s : Sn) (t : ByteArray) : Sn := if s.putE t = 0 then s.add t else s
theorem Sn.put_ok {s : Sn} (h : s.ok) (t : ByteArray) : (s.put t).ok := by
  unfold Sn.put
  split
  · rename_i hp
    have hl : ¬ 32 ≤ s.len := by
      intro hc
      unfold Sn.putE at hp
      by_cases h3 : 32 < t.size
      · rw [if_pos h3] at hp; cases hp
      · rw [if_neg h3, if_pos hc] at hp; cases hp
    unfold Sn.len at hl
    exact ⟨h.w1, h.w8, h.r1, h.r2, by show s.go + (s.R ++ [t]).length ≤ 32; simp; omega, h.gs, by have := h.we1; have := h.we2; show s.said ≤ min (s.go + s.wd) (s.go + (s.R ++ [t]).length); simp; omega, h.t⟩
  · exact h
/-- where what was put lies -/
def PutP (b : Nat) (s : Sn) (t : ByteArray) (ad : Option Addr) (cap X o : Nat) (w w' : World) : Prop :=
  (s.putE t ≠ 0 ∧ ∃ m, w' = w.drewN m) ∨ (s.putE t = 0 ∧ ∃ ad' cap' X' o', Sb w' b (s.add t) ad' cap' X' o' ∧ PutF b s ad cap X o ad' cap' X' o' w w')
set_option maxHeartbeats 2000000 in
set_option maxRecDepth 8000 in
theorem sput_any {w : World} {b : Nat} {s : Sn} {ad : Option Addr} {cap X o : Nat} (hk : s.ok) (h : Sb w b s ad cap X o) (t : ByteArray) :
    Calls Tryz.prog 126 #[.pointer (some ⟨b, 0, none⟩), .string t] w fun e w' => e = .returned (.int .i64 (s.putE t)) ∧ PutP b s t ad cap X o w w' := by
  have HK := hide hk
  have HL := hide (len_any hk.l h)
  have HH := hide h
  clear hk h
  by_cases h1 : 32 < t.size
  · have e1 : s.putE t = 142 := if_pos h1
    rw [e1]
    have HE := hide e1
    clear e1
    go_enter Tryz.func126, Tryz.ntmps126
    go_wp2
    go_ret
    exact ⟨rfl, .inl ⟨by rw [HE.out]; decide, 0, rfl⟩⟩
  · by_cases h2 : 32 ≤ s.len
    · have e1 : s.putE t = 141 := by unfold Sn.putE; rw [if_neg h1, if_pos h2]
      rw [e1]
      have HE := hide e1
      clear e1
      go_enter Tryz.func126, Tryz.ntmps126
      go_wp2_with fail
      refine HL.out.mono ?_
      rintro e w1 ⟨rfl, m, rfl⟩
      go_wp2_with fail
      go_ret
      exact ⟨rfl, .inl ⟨by rw [HE.out]; decide, m, rfl⟩⟩
    · have e1 : s.putE t = 0 := by unfold Sn.putE; rw [if_neg h1, if_neg h2]
      rw [e1]
      have HE := hide e1
      clear e1
      go_enter Tryz.func126, Tryz.ntmps126
      go_wp2_with fail
      refine HL.out.mono ?_
      rintro e w1 ⟨rfl, m, rfl⟩
      go_wp2_with fail
      refine (put_any (by have := HK.out.l; omega) (HH.out.drewN m) t).mono ?_
      rintro e w2 ⟨rfl, ad', cap', X', o', hS, hF⟩
      have HF := hide hF
      have HS := hide hS
      clear hF hS
      go_wp2_with fail
      go_ret
      exact ⟨rfl, .inr ⟨HE.out, ad', cap', X', o', HS.out, by
        rcases HF.out with ⟨f1, f2, f3, f4, f5, f6⟩ | ⟨f1, f2⟩
        · exact .inl ⟨f1, f2, f3, f4, f5, f6.pre⟩
        · exact .inr ⟨f1, f2.pre⟩⟩⟩
def Sn.ackB (s : Sn) (k : Int) : Bool := decide ((s.go : Int) < k) && decide (k ≤ (s.said : Int))
def Sn.ack (s : Sn) (k : Int) : Sn := if s.ackB k then { s with go := k.toNat, R := s.R.drop (k.toNat - s.go), ti := if k.toNat = s.len then 0 else s.ti } else s
theorem Sn.ackB_iff {s : Sn} {k : Int} : s.ackB k = true ↔ (s.go : Int) < k ∧ k ≤ (s.said : Int) := by unfold Sn.ackB; simp
theorem Sn.ack_ok {s : Sn} (h : s.ok) (k : Int) : (s.ack k).ok := by
  unfold Sn.ack
  split
  · rename_i hp
    obtain ⟨h1, h2⟩ := Sn.ackB_iff.mp hp
    have h3 := h.we2
    have h4 := h.we1
    have hl : (s.R.drop (k.toNat - s.go)).length = s.R.length - (k.toNat - s.go) := List.length_drop
    refine ⟨h.w1, h.w8, h.r1, h.r2, ?_, ?_, ?_, ?_⟩
    · show k.toNat + (s.R.drop (k.toNat - s.go)).length ≤ 32
      have := h.l; omega
    · show k.toNat ≤ s.said; omega
    · show s.said ≤ min (k.toNat + s.wd) (k.toNat + (s.R.drop (k.toNat - s.go)).length)
      omega
    · show (if k.toNat = s.len then 0 else s.ti) ≤ s.rs
      have := h.t
      split <;> omega
  · exact h
set_option maxHeartbeats 2000000 in
set_option maxRecDepth 8000 in
theorem ack_any {w : World} {b : Nat} {s : Sn} {ad : Option Addr} {cap X o : Nat} (hk : s.ok) (h : Sb w b s ad cap X o) (k : Int) (hk6 : -9223372036854775808 ≤ k ∧ k ≤ 9223372036854775807) :
    Calls Tryz.prog 149 #[.pointer (some ⟨b, 0, none⟩), .int .i64 k] w fun e w' => e = .returned (.bool (s.ackB k)) ∧ ((s.ackB k = false ∧ w' = w) ∨ (s.ackB k = true ∧ ∃ ad', Sb w' b (s.ack k) ad' (s.R.length - (k.toNat - s.go)) X (o + (k.toNat - s.go)))) ∧ On b w w' := by
  have HA := hide (acked_any h)
  have HK := hide hk
  have HH := hide h
  have c4 := h.c4
  clear h hk
  by_cases h1 : k ≤ (s.go : Int)
  · have e1 : s.ackB k = false := by
      cases hb : s.ackB k with
      | false => rfl
      | true => have := Sn.ackB_iff.mp hb; omega
    rw [e1]
    have HE := hide e1
    clear e1
    go_enter Tryz.func149, Tryz.ntmps149
    go_wp2_with fail
    refine HA.out.mono ?_
    rintro e w1 ⟨rfl, rfl⟩
    go_wp2_with fail
    go_ret
    exact ⟨rfl, .inl ⟨by trivial, rfl⟩, On.refl b _⟩
  · have d1 : decide (k ≤ (s.go : Int)) = false := decide_eq_false h1
    by_cases h2 : (s.said : Int) < k
    · have e1 : s.ackB k = false := by
        cases hb : s.ackB k with
        | false => rfl
        | true => have := Sn.ackB_iff.mp hb; omega
      rw [e1]
      have HE := hide e1
      clear e1
      go_enter Tryz.func149, Tryz.ntmps149
      go_wp2_with fail
      refine HA.out.mono ?_
      rintro e w1 ⟨rfl, rfl⟩
      go_wp2_with fail
      go_ret
      exact ⟨rfl, .inl ⟨by trivial, rfl⟩, On.refl b _⟩
    · have d2 : decide ((s.said : Int) < k) = false := decide_eq_false h2
      have e1 : s.ackB k = true := Sn.ackB_iff.mpr ⟨by omega, by omega⟩
      have hAk : s.ack k = { s with go := k.toNat, R := s.R.drop (k.toNat - s.go), ti := if k.toNat = s.len then 0 else s.ti } := by unfold Sn.ack; rw [if_pos e1]
      rw [e1, hAk]
      obtain ⟨n, rfl⟩ : ∃ n : Nat, k = (n : Int) := ⟨k.toNat, by omega⟩
      rw [Int.toNat_natCast]
      have HE := hide e1
      have hw2 := HK.out.we2
      have HLv := hide (leave_any (k := n) HK.out.l HH.out (by omega) (by omega))
      have HN : Hid (s.go ≤ n ∧ n ≤ s.go + s.R.length) := hide ⟨by omega, by omega⟩
      clear e1 hAk hw2 h1 h2
      have d1 : decide (n ≤ s.go) = false := by simpa using d1
      have d2 : decide (s.said < n) = false := by simpa using d2
      go_enter Tryz.func149, Tryz.ntmps149
      go_wp2_with fail
      refine HA.out.mono ?_
      rintro e w1 ⟨rfl, rfl⟩
      go_wp2_with fail
      refine HLv.out.mono ?_
      rintro e w2 ⟨rfl, ⟨ad', hS⟩, hO⟩
      have hl2 : (Sn.mk s.wd s.rs n (s.R.drop (n - s.go)) s.said s.ti).len = s.len := by unfold Sn.len; show n + (s.R.drop (n - s.go)).length = _; rw [List.length_drop]; have := HN.out; omega
      have HL := hide (len_any (by have := HK.out.l; show n + (s.R.drop (n - s.go)).length ≤ 32; rw [List.length_drop]; have := HN.out; omega) hS)
      rw [hl2] at HL
      have HS := hide hS
      have HO := hide hO
      clear hl2 hS hO HLv
      go_wp2_with fail
      refine HL.out.mono ?_
      rintro e w3 ⟨rfl, m, rfl⟩
      by_cases h3 : n = s.len
      · have z5 := HS.out.z 5
        have c5 := HS.out.c5
        have e3 : (n == s.len) = true := by simpa using h3
        have HN3 := hide h3
        clear h3
        go_wp2_with fail
        go_ret
        exact ⟨rfl, ⟨ad', by rw [← HN3.out]; exact (HS.out.drewN m).c3_ti 0⟩, (HO.out.drewN m).set _ _⟩
      · have e3 : (n == s.len) = false := by simpa using h3
        have HN3 := hide h3
        clear h3
        go_wp2_with fail
        go_ret
        exact ⟨rfl, ⟨ad', HS.out.drewN m⟩, HO.out.drewN m⟩
end Go.Proofs.YtkfnedhllfdghaaGreatDoor.CH
end

section
namespace Go.Proofs.YtkfnedhllfdghaaGreatDoor.CH
set_option maxRecDepth 20000
open Go.RowKit

theorem Tryz.infoI : (Tryz.prog.info? 159).map (fun i => (i.zero, i.size, i.bytes)) = some (some (.agg #[.int .i64 0, .string ByteArray.empty]), 2, 24) := by kernel_rfl
theorem two_new (w : World) (u v : Value) (t : TypeId) : ∀ j x, [u, v][j]? = some x → (w.alloc (.cells #[u, v] t)).cell? ((⟨w.heap.size, 0, none⟩ : Addr).add j) = some x := by
  intro j x hj
  match j, hj with
  | 0, hj => simp at hj; subst hj; simp [Addr.add]
  | 1, hj => simp at hj; subst hj; simp [Addr.add]
theorem own_keep {w w' : World} {B : Nat} {e : TypeId} {size n : Nat} {v : Value} {xs : List Value} (h : w.ownsRow B e size v n xs) (hk : ∀ k, v.ownBlock = some k → w'.heap[k]? = w.heap[k]?) : w'.ownsRow B e size v n xs := by
  refine ⟨h.1, ?_⟩
  rcases h.2 with h1 | ⟨g, cap, cur, rfl, hg, hb, h2⟩
  · exact .inl h1
  · exact .inr ⟨g, cap, cur, rfl, hg, (hk g rfl).trans hb, h2⟩
theorem own_below {w w' : World} {B : Nat} {e : TypeId} {size n : Nat} {v : Value} {xs : List Value} (h : w.ownsRow B e size v n xs) (hb : Below w.heap.size w w') : w'.ownsRow B e size v n xs := own_keep h fun k hk => hb.block k (h.lt k hk).2
theorem own_slice {w : World} {B : Nat} {e : TypeId} {size n : Nat} {v : Value} {xs : List Value} (h : w.ownsRow B e size v n xs) : ∃ ad cap, v = .slice ad n cap := by
  rcases Nat.eq_zero_or_pos n with h0 | h0
  · rcases h.2 with ⟨h1, h2⟩ | ⟨g, cap, cur, h1, _⟩
    · exact ⟨none, 0, by rw [h1, h2]⟩
    · exact ⟨_, _, h1⟩
  · obtain ⟨g, c, _, h1, _⟩ := own_form h h0
    exact ⟨_, _, h1⟩
/-- items laid out -/
def ics (D : List (Nat × ByteArray)) : List Value := D.flatMap fun p => [.int .i64 (p.1 : Int), .string p.2]
theorem ics_app (D E : List (Nat × ByteArray)) : ics (D ++ E) = ics D ++ ics E := by simp [ics]
theorem ics_len (D : List (Nat × ByteArray)) : (ics D).length = D.length * 2 := by
  induction D with
  | nil => rfl
  | cons p D ih => rw [show ics (p :: D) = [.int .i64 (p.1 : Int), .string p.2] ++ ics D from rfl, List.length_append, ih]; simp; omega
theorem ics_get (D : List (Nat × ByteArray)) (k : Nat) (h : k < D.length) : (ics D)[k * 2]? = some (.int .i64 ((D[k]).1 : Int)) ∧ (ics D)[k * 2 + 1]? = some (.string (D[k]).2) := by
  induction D generalizing k with
  | nil => simp at h
  | cons p D ih =>
    rw [show ics (p :: D) = .int .i64 (p.1 : Int) :: .string p.2 :: ics D from rfl]
    cases k with
    | zero => exact ⟨rfl, rfl⟩
    | succ k =>
      have := ih k (by simpa using h)
      rw [show (k + 1) * 2 = k * 2 + 2 by omega, show k * 2 + 2 + 1 = k * 2 + 1 + 2 by omega]
      exact this
/-- what is due -/
def Sn.from_ (s : Sn) : Nat := if s.ti = 0 then s.go else s.said
def Sn.it (s : Sn) (k : Nat) : Nat × ByteArray := (s.from_ + k, s.R.getD (s.from_ - s.go + k) ByteArray.empty)
def Sn.its (s : Sn) : List (Nat × ByteArray) := (List.range (s.we - s.from_)).map s.it
theorem Sn.its_len (s : Sn) : s.its.length = s.we - s.from_ := by simp [Sn.its]
theorem Sn.its_get (s : Sn) (k : Nat) (h : k < s.its.length) : s.its[k] = s.it k := by simp [Sn.its]
def Sn.due (s : Sn) : Sn := if s.we ≤ s.from_ then s else { s with said := s.we, ti := if s.ti = 0 then s.rs else s.ti }
theorem Sn.from_lo {s : Sn} (h : s.ok) : s.go ≤ s.from_ := by have := h.gs; unfold Sn.from_; split <;> omega
theorem Sn.from_hi {s : Sn} (h : s.ok) : s.from_ ≤ s.we := by have h1 := h.gs; have h2 := h.sw; unfold Sn.from_; split <;> omega
theorem Sn.we_lo {s : Sn} (h : s.ok) : s.go ≤ s.we := Nat.le_trans (Sn.from_lo h) (Sn.from_hi h)
theorem Sn.we_hi (s : Sn) : s.we ≤ s.go + s.R.length := Nat.min_le_right _ _
theorem Sn.due_ok {s : Sn} (h : s.ok) : s.due.ok := by
  unfold Sn.due
  split
  · exact h
  · refine ⟨h.w1, h.w8, h.r1, h.r2, h.l, (show s.go ≤ s.we from Sn.we_lo h), Nat.le_refl _, ?_⟩
    show (if s.ti = 0 then s.rs else s.ti) ≤ s.rs
    have := h.t
    split <;> omega
/-- behind a call of Due -/
def DPost (w : World) (b : Nat) (s : Sn) (ad : Option Addr) (cap X o : Nat) (e : Ending) (w' : World) : Prop :=
  ∃ v, e = .returned v ∧ w'.ownsRow w.heap.size 159 2 v s.its.length (ics s.its) ∧ Sb w' b s.due ad cap X o ∧ On b w w'
theorem grown_of {B : Nat} {w w1 w2 : World} {v : Value} (h : Below B w w1) (hg : w1.grownBy w2 v.ownBlock) (hB : B ≤ w1.heap.size) (hv : ∀ k, v.ownBlock = some k → B ≤ k) : Below B w w2 := h.grown hg hB hv
set_option maxHeartbeats 4000000 in
set_option maxRecDepth 8000 in
theorem due_zero {w : World} {b : Nat} {s : Sn} {ad : Option Addr} {cap X o : Nat} (hk : s.ok) (h : Sb w b s ad cap X o) (ht : s.ti = 0) :
    Calls Tryz.prog 89 #[.pointer (some ⟨b, 0, none⟩)] w (DPost w b s ad cap X o) := by
  have hfr : s.from_ = s.go := by unfold Sn.from_; rw [if_pos ht]
  have hlo := Sn.from_lo hk
  have hhi := Sn.from_hi hk
  have hwl := Sn.we_hi s
  have hl32 := hk.l
  have HL : Hid (s.its.length = s.we - s.from_) := hide (Sn.its_len s)
  have HW : Hid (∀ n, Calls Tryz.prog 127 #[.pointer (some ⟨b, 0, none⟩)] (w.drewN n) fun e w' => e = .returned (.int .i64 (s.we : Int)) ∧ ∃ m, w' = (w.drewN n).drewN m) := hide fun n => we_any hk (h.drewN n)
  have HA : Hid (∀ n, Calls Tryz.prog 82 #[.pointer (some ⟨b, 0, none⟩)] (w.drewN n) fun e w' => e = .returned (.int .i64 (s.go : Int)) ∧ w' = w.drewN n) := hide fun n => acked_any (h.drewN n)
  have HP : Hid (∀ n, Calls Tryz.prog 128 #[.pointer (some ⟨b, 2, none⟩), .int .i64 (s.go : Int), .int .i64 (s.we : Int)] (w.drewN n) fun e w' => ∃ ad', e = .returned (.slice ad' (s.we - s.from_) (s.we - s.from_)) ∧ (s.from_ < s.we → ad' = some ⟨X, o + (s.from_ - s.go), none⟩) ∧ ∃ m, w' = (w.drewN n).drewN m) := hide fun n => by
    have := piece_any (a := (s.go : Int)) (c := (s.we : Int)) (f := s.from_ - s.go) (t := s.we - s.go) hk.l (h.drewN n) (by omega) (by omega) (by omega) (by omega)
    rw [show s.we - s.go - (s.from_ - s.go) = s.we - s.from_ by omega] at this
    exact this.mono fun e w' ⟨a1, a2, a3, a4⟩ => ⟨a1, a2, fun h1 => a3 (by omega), a4⟩
  have HC : Hid (∀ k, k < s.we - s.from_ → w.cell? ⟨X, o + (s.from_ - s.go) + k, none⟩ = some (.string (s.it k).2)) := hide fun k hk2 => by
    have h1 := h.rs.c (s.from_ - s.go + k) (by omega)
    rw [Nat.add_assoc, h1]
    unfold Sn.it
    simp only [List.getD_eq_getElem?_getD, List.getElem?_eq_getElem (show s.from_ - s.go + k < s.R.length by omega), Option.getD_some]
  have HXl : Hid (s.from_ < s.we → X < w.heap.size) := hide fun h1 => h.rs.lt (by have := h.rs.le; omega)
  have HN : Hid (s.we - s.from_ = 0 → s.due = s) := hide fun h1 => by unfold Sn.due; rw [if_pos (by omega)]
  have HY : Hid (0 < s.we - s.from_ → s.due = { s with said := s.we, ti := s.rs }) := hide fun h1 => by unfold Sn.due; rw [if_neg (by omega), if_pos ht]
  have HTz := hide ht
  have HH := hide h
  have hlt := h.lt
  have c4 := h.c4
  have c5 := h.c5
  rw [ht] at c5
  have hwe : s.we ≤ 32 := by omega
  obtain ⟨q, hq⟩ : ∃ q, s.we = q := ⟨_, rfl⟩
  have HQ := hide hq
  have hgo : s.go ≤ 32 := by omega
  have hsd : s.go ≤ 32 := by omega
  have hF : ∀ k, (s.it k).1 = s.go + k := fun k => by unfold Sn.it; rw [hfr]
  have HF := hide hF
  obtain ⟨n, hn⟩ : ∃ n, s.we - s.from_ = n := ⟨_, rfl⟩
  have hn32 : n ≤ 32 := by omega
  have HNn := hide hn
  have HSl : Hid (0 < n → s.from_ < s.we) := hide (by omega)
  have HSi : Hid (s.its = (List.range n).map s.it) := hide (by rw [← hn]; rfl)
  rw [hn] at HC HP HN HY HL
  rw [hq] at HW HP HSl HXl
  obtain ⟨iI, hiI, zI0, zI1, zI2⟩ := info_parts Tryz.infoI
  have hr1 := hk.r2
  have HK := hide hk
  clear h hk ht hlo hhi hwl hl32 hfr hF hn hq
  have hwe : q ≤ 32 := by have := HQ.out; omega
  go_enter Tryz.func89, Tryz.ntmps89
  go_wp2_with fail
  go_quiet ((go_at_call 127; exact Calls.quiet_of (HW.out _)))
  go_wp2_with fail
  refine (HA.out _).mono ?_
  rintro e w1 ⟨rfl, rfl⟩
  go_wp2_with fail
  refine (HP.out _).mono ?_
  rintro e w2 ⟨ad', rfl, hat, m2, hw2⟩
  have HB2 : Hid (Below w.heap.size w w2) := hide (by rw [hw2]; exact below_drewN (below_drewN (Below.refl _ w) _) _)
  have HAt := hide hat
  clear hw2 hat
  go_wp2_with fail
  go_loopw [5, 6, 7, 28] (fun u _ _ c wr => ∃ k : Nat, c = .int .i64 (k : Int) ∧ k ≤ n ∧ Hid (wr.ownsRow w.heap.size 159 2 u k (ics ((List.range k).map s.it))) ∧ Hid (Below w.heap.size w wr)) (fun _ _ _ c _ => n - (intOf c).toNat)
  case atStart => exact ⟨0, rfl, Nat.zero_le _, World.ownsRow_nil _ _ _ _, HB2⟩
  case round =>
    clear HB2
    obtain ⟨k, rfl, hkn, HO, HB⟩ := hrel
    by_cases hki : k < n
    · have had := HAt.out (HSl.out (by omega))
      subst had
      have hbk := (HB.out.block X (HXl.out (HSl.out (by omega))))
      have ck := (World.cell?_of_block (a := ⟨X, o + (s.from_ - s.go) + k, none⟩) hbk).trans (HC.out k hki)
      have hXr : X < wr.heap.size := Nat.lt_of_lt_of_le (HXl.out (HSl.out (by omega))) HB.out.size
      obtain ⟨tx, htx⟩ : ∃ tx, (s.it k).2 = tx := ⟨_, rfl⟩
      rw [htx] at ck
      have HT : Hid (ics ((List.range (k + 1)).map s.it) = ics ((List.range k).map s.it) ++ [.int .i64 ((s.go : Int) + (k : Int)), .string tx]) := hide (by
        rw [List.range_succ, List.map_append, ics_app]
        have e1 : s.it k = (s.go + k, tx) := Prod.ext (HF.out k) htx
        simp only [List.map_cons, List.map_nil, e1]
        simp [ics])
      obtain ⟨adu, capu, rfl⟩ := own_slice HO.out
      have hsz := HB.out.size
      have hap : Hid (∀ g, (Value.slice adu k capu).ownBlock = some g → w.heap.size ≤ g) := hide fun g e => (HO.out.lt g e).1
      have HO3 : Hid ((wr.alloc (.cells #[.int .i64 ((s.go : Int) + (k : Int)), .string tx] 159)).ownsRow w.heap.size 159 2 (.slice adu k capu) k (ics ((List.range k).map s.it))) := hide (own_below HO.out (below_alloc wr _))
      clear hbk htx
      go_wp2_with (at_builtin; refine wpList_append_lies _ rfl (.tmp 33) (.tmp 39) 156 rfl w.heap.size 159 iI (.agg #[.int .i64 0, .string ByteArray.empty]) 2 24 Tryz.underlying156 hiI zI0 zI1 zI2 rfl (by decide) (.slice adu k capu) k (ics ((List.range k).map s.it)) rfl HO3.out ⟨wr.heap.size, 0, none⟩ 1 1 [.int .i64 ((s.go : Int) + (k : Int)), .string tx] rfl rfl (two_new _ _ _ _) (by simp [Value.oneCell']) (by decide) (by unfold maxLen; omega) (by omega) (by rw [World.size_alloc]; omega) _ rfl ?_; intro g cap' w7 hown hgrow hat7 hlt7; have HO7 := hide hown; have HB7 := hide (grown_of (HB.out.alloc hsz _) hgrow (by rw [World.size_alloc]; omega) hap.out); clear hown hgrow hat7 hlt7)
      go_roundw
      case rel => exact ⟨k + 1, by go_num, by omega, by rw [HT.out]; exact HO7, HB7⟩
      case measure => simp only [intOf]; omega
    · have hkn2 : k = n := by omega
      subst hkn2
      obtain ⟨adu, capu, rfl⟩ := own_slice HO.out
      by_cases h0 : k = 0
      · subst h0
        have HD := hide (HN.out rfl)
        clear HY HN hki
        go_wp2_with fail
        go_ret
        exact ⟨_, rfl, by rw [HSi.out]; exact World.ownsRow_nil _ _ _ _, by rw [HD.out]; exact HH.out.below HB.out, On.of_below HB.out⟩
      · have HD := hide (HY.out (by omega))
        have hS := HH.out.below HB.out
        have d1 := hS.c1
        have d4 := hS.c4
        have d5 := hS.c5
        have z4 := hS.z 4
        have z5 := hS.z 5
        have HS := hide hS
        have e0 : (k == 0) = false := by simpa using h0
        rw [show (s.ti : Int) = 0 from by have := HTz.out; omega] at d5
        clear HY HN hki hS h0
        go_wp2_with fail
        go_ret
        refine ⟨_, rfl, ?_, ?_, ?_⟩
        · rw [HL.out, HSi.out]
          exact own_keep HO.out fun j hj => (Below.heap_setCell _ ⟨b, 5, none⟩ _ j (by show j ≠ b; have := (HO.out.lt j hj).1; omega)).trans (Below.heap_setCell _ ⟨b, 4, none⟩ _ j (by show j ≠ b; have := (HO.out.lt j hj).1; omega))
        · rw [HD.out, HQ.out]
          exact (HS.out.c3_said q).c3_ti s.rs
        · exact ((On.of_below HB.out).set _ _).set _ _
set_option maxHeartbeats 4000000 in
set_option maxRecDepth 8000 in
theorem due_some {w : World} {b : Nat} {s : Sn} {ad : Option Addr} {cap X o : Nat} (hk : s.ok) (h : Sb w b s ad cap X o) (ht : ¬ s.ti = 0) :
    Calls Tryz.prog 89 #[.pointer (some ⟨b, 0, none⟩)] w (DPost w b s ad cap X o) := by
  have hfr : s.from_ = s.said := by unfold Sn.from_; rw [if_neg ht]
  have hlo := Sn.from_lo hk
  have hhi := Sn.from_hi hk
  have hwl := Sn.we_hi s
  have hl32 := hk.l
  have HL : Hid (s.its.length = s.we - s.from_) := hide (Sn.its_len s)
  have HW : Hid (∀ n, Calls Tryz.prog 127 #[.pointer (some ⟨b, 0, none⟩)] (w.drewN n) fun e w' => e = .returned (.int .i64 (s.we : Int)) ∧ ∃ m, w' = (w.drewN n).drewN m) := hide fun n => we_any hk (h.drewN n)
  have HA : Hid (∀ n, Calls Tryz.prog 82 #[.pointer (some ⟨b, 0, none⟩)] (w.drewN n) fun e w' => e = .returned (.int .i64 (s.go : Int)) ∧ w' = w.drewN n) := hide fun n => acked_any (h.drewN n)
  have HP : Hid (∀ n, Calls Tryz.prog 128 #[.pointer (some ⟨b, 2, none⟩), .int .i64 (s.said : Int), .int .i64 (s.we : Int)] (w.drewN n) fun e w' => ∃ ad', e = .returned (.slice ad' (s.we - s.from_) (s.we - s.from_)) ∧ (s.from_ < s.we → ad' = some ⟨X, o + (s.from_ - s.go), none⟩) ∧ ∃ m, w' = (w.drewN n).drewN m) := hide fun n => by
    have := piece_any (a := (s.said : Int)) (c := (s.we : Int)) (f := s.from_ - s.go) (t := s.we - s.go) hk.l (h.drewN n) (by omega) (by omega) (by omega) (by omega)
    rw [show s.we - s.go - (s.from_ - s.go) = s.we - s.from_ by omega] at this
    exact this.mono fun e w' ⟨a1, a2, a3, a4⟩ => ⟨a1, a2, fun h1 => a3 (by omega), a4⟩
  have HC : Hid (∀ k, k < s.we - s.from_ → w.cell? ⟨X, o + (s.from_ - s.go) + k, none⟩ = some (.string (s.it k).2)) := hide fun k hk2 => by
    have h1 := h.rs.c (s.from_ - s.go + k) (by omega)
    rw [Nat.add_assoc, h1]
    unfold Sn.it
    simp only [List.getD_eq_getElem?_getD, List.getElem?_eq_getElem (show s.from_ - s.go + k < s.R.length by omega), Option.getD_some]
  have HXl : Hid (s.from_ < s.we → X < w.heap.size) := hide fun h1 => h.rs.lt (by have := h.rs.le; omega)
  have HN : Hid (s.we - s.from_ = 0 → s.due = s) := hide fun h1 => by unfold Sn.due; rw [if_pos (by omega)]
  have HY : Hid (0 < s.we - s.from_ → s.due = { s with said := s.we, ti := s.ti }) := hide fun h1 => by unfold Sn.due; rw [if_neg (by omega), if_neg ht]
  have HH := hide h
  have hlt := h.lt
  have c4 := h.c4
  have c5 := h.c5
  have ht2 : (s.ti == 0) = false := by simpa using ht
  have hwe : s.we ≤ 32 := by omega
  obtain ⟨q, hq⟩ : ∃ q, s.we = q := ⟨_, rfl⟩
  have HQ := hide hq
  have hgo : s.go ≤ 32 := by omega
  have hsd : s.said ≤ 32 := by omega
  have hF : ∀ k, (s.it k).1 = s.said + k := fun k => by unfold Sn.it; rw [hfr]
  have HF := hide hF
  obtain ⟨n, hn⟩ : ∃ n, s.we - s.from_ = n := ⟨_, rfl⟩
  have hn32 : n ≤ 32 := by omega
  have HNn := hide hn
  have HSl : Hid (0 < n → s.from_ < s.we) := hide (by omega)
  have HSi : Hid (s.its = (List.range n).map s.it) := hide (by rw [← hn]; rfl)
  rw [hn] at HC HP HN HY HL
  rw [hq] at HW HP HSl HXl
  obtain ⟨iI, hiI, zI0, zI1, zI2⟩ := info_parts Tryz.infoI
  have hr1 := hk.r2
  have HK := hide hk
  clear h hk ht hlo hhi hwl hl32 hfr hF hn hq
  have hwe : q ≤ 32 := by have := HQ.out; omega
  go_enter Tryz.func89, Tryz.ntmps89
  go_wp2_with fail
  go_quiet ((go_at_call 127; exact Calls.quiet_of (HW.out _)))
  go_wp2_with fail
  refine (HP.out _).mono ?_
  rintro e w2 ⟨ad', rfl, hat, m2, hw2⟩
  have HB2 : Hid (Below w.heap.size w w2) := hide (by rw [hw2]; exact below_drewN (below_drewN (Below.refl _ w) _) _)
  have HAt := hide hat
  clear hw2 hat
  go_wp2_with fail
  go_loopw [5, 6, 7, 28] (fun u _ _ c wr => ∃ k : Nat, c = .int .i64 (k : Int) ∧ k ≤ n ∧ Hid (wr.ownsRow w.heap.size 159 2 u k (ics ((List.range k).map s.it))) ∧ Hid (Below w.heap.size w wr)) (fun _ _ _ c _ => n - (intOf c).toNat)
  case atStart => exact ⟨0, rfl, Nat.zero_le _, World.ownsRow_nil _ _ _ _, HB2⟩
  case round =>
    clear HB2
    obtain ⟨k, rfl, hkn, HO, HB⟩ := hrel
    by_cases hki : k < n
    · have had := HAt.out (HSl.out (by omega))
      subst had
      have hbk := (HB.out.block X (HXl.out (HSl.out (by omega))))
      have ck := (World.cell?_of_block (a := ⟨X, o + (s.from_ - s.go) + k, none⟩) hbk).trans (HC.out k hki)
      have hXr : X < wr.heap.size := Nat.lt_of_lt_of_le (HXl.out (HSl.out (by omega))) HB.out.size
      obtain ⟨tx, htx⟩ : ∃ tx, (s.it k).2 = tx := ⟨_, rfl⟩
      rw [htx] at ck
      have HT : Hid (ics ((List.range (k + 1)).map s.it) = ics ((List.range k).map s.it) ++ [.int .i64 ((s.said : Int) + (k : Int)), .string tx]) := hide (by
        rw [List.range_succ, List.map_append, ics_app]
        have e1 : s.it k = (s.said + k, tx) := Prod.ext (HF.out k) htx
        simp only [List.map_cons, List.map_nil, e1]
        simp [ics])
      obtain ⟨adu, capu, rfl⟩ := own_slice HO.out
      have hsz := HB.out.size
      have hap : Hid (∀ g, (Value.slice adu k capu).ownBlock = some g → w.heap.size ≤ g) := hide fun g e => (HO.out.lt g e).1
      have HO3 : Hid ((wr.alloc (.cells #[.int .i64 ((s.said : Int) + (k : Int)), .string tx] 159)).ownsRow w.heap.size 159 2 (.slice adu k capu) k (ics ((List.range k).map s.it))) := hide (own_below HO.out (below_alloc wr _))
      clear hbk htx
      go_wp2_with (at_builtin; refine wpList_append_lies _ rfl (.tmp 33) (.tmp 39) 156 rfl w.heap.size 159 iI (.agg #[.int .i64 0, .string ByteArray.empty]) 2 24 Tryz.underlying156 hiI zI0 zI1 zI2 rfl (by decide) (.slice adu k capu) k (ics ((List.range k).map s.it)) rfl HO3.out ⟨wr.heap.size, 0, none⟩ 1 1 [.int .i64 ((s.said : Int) + (k : Int)), .string tx] rfl rfl (two_new _ _ _ _) (by simp [Value.oneCell']) (by decide) (by unfold maxLen; omega) (by omega) (by rw [World.size_alloc]; omega) _ rfl ?_; intro g cap' w7 hown hgrow hat7 hlt7; have HO7 := hide hown; have HB7 := hide (grown_of (HB.out.alloc hsz _) hgrow (by rw [World.size_alloc]; omega) hap.out); clear hown hgrow hat7 hlt7)
      go_roundw
      case rel => exact ⟨k + 1, by go_num, by omega, by rw [HT.out]; exact HO7, HB7⟩
      case measure => simp only [intOf]; omega
    · have hkn2 : k = n := by omega
      subst hkn2
      obtain ⟨adu, capu, rfl⟩ := own_slice HO.out
      by_cases h0 : k = 0
      · subst h0
        have HD := hide (HN.out rfl)
        clear HY HN hki
        go_wp2_with fail
        go_ret
        exact ⟨_, rfl, by rw [HSi.out]; exact World.ownsRow_nil _ _ _ _, by rw [HD.out]; exact HH.out.below HB.out, On.of_below HB.out⟩
      · have HD := hide (HY.out (by omega))
        have hS := HH.out.below HB.out
        have d1 := hS.c1
        have d4 := hS.c4
        have d5 := hS.c5
        have z4 := hS.z 4
        have z5 := hS.z 5
        have HS := hide hS
        have e0 : (k == 0) = false := by simpa using h0
        clear HY HN hki hS h0
        go_wp2_with fail
        go_ret
        refine ⟨_, rfl, ?_, ?_, ?_⟩
        · rw [HL.out, HSi.out]
          exact own_keep HO.out fun j hj => (Below.heap_setCell _ ⟨b, 4, none⟩ _ j (by show j ≠ b; have := (HO.out.lt j hj).1; omega))
        · rw [HD.out, HQ.out]
          exact HS.out.c3_said q
        · exact (On.of_below HB.out).set _ _
theorem due_any {w : World} {b : Nat} {s : Sn} {ad : Option Addr} {cap X o : Nat} (hk : s.ok) (h : Sb w b s ad cap X o) : Calls Tryz.prog 89 #[.pointer (some ⟨b, 0, none⟩)] w (DPost w b s ad cap X o) := by
  by_cases ht : s.ti = 0
  · exact due_zero hk h ht
  · exact due_some hk h ht
end Go.Proofs.YtkfnedhllfdghaaGreatDoor.CH
end
