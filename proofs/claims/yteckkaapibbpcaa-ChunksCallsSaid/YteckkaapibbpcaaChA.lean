import Derived.Test.YteckkaapibbpcaaRows
import Derived.WalkKit
import Derived.WalkSpells
import Derived.WalkLawsBesides
import Derived.BigQuiet
import Derived.BigRegion
import Derived.Deep.Cut
import Derived.Deep.AppendLies
import Derived.Deep.RegionLaw
import Derived.Deep.RegionHeld3
import Derived.Laws.StructEq
import Derived.Lib.SliceRun
import Derived.ArgAppend
namespace Go.Proofs.Yteckkaapibbpcaa
open Go.RowKit

theorem hide {p : Prop} (h : p) : Hid p := h
/-- a sender: so many have left, R are the others -/
structure Sn where
  wd : Nat
  rs : Nat
  go : Nat
  R : List ByteArray
  said : Nat
  ti : Nat
/-- how many there are -/
def Sn.len (s : Sn) : Nat := s.go + s.R.length
/-- the number behind the window's last item -/
def Sn.we (s : Sn) : Nat := min (s.go + s.wd) s.len
structure Sn.ok (s : Sn) : Prop where
  w1 : 1 ≤ s.wd
  w8 : s.wd ≤ 8
  r1 : 1 ≤ s.rs
  r2 : s.rs ≤ 16
  l : s.go + s.R.length ≤ 32
  gs : s.go ≤ s.said
  sw : s.said ≤ s.we
  t : s.ti ≤ s.rs
theorem Sn.ok.we1 {s : Sn} (h : s.ok) : s.said ≤ s.go + s.wd := Nat.le_trans h.sw (Nat.min_le_left _ _)
theorem Sn.ok.we2 {s : Sn} (h : s.ok) : s.said ≤ s.go + s.R.length := Nat.le_trans h.sw (Nat.min_le_right _ _)
/-- what of the texts lies in memory -/
structure Rs (w : World) (ad : Option Addr) (cap X o : Nat) (R : List ByteArray) : Prop where
  le : R.length ≤ cap
  at_ : 0 < cap → ad = some ⟨X, o, none⟩
  blk : 0 < cap → ∃ cur, w.heap[X]? = some (.cells cur 9 (0, 0)) ∧ o + cap ≤ cur.size
  c : ∀ i (h : i < R.length), w.cell? ⟨X, o + i, none⟩ = some (.string R[i])
theorem Rs.keep {w w' : World} {ad : Option Addr} {cap X o : Nat} {R : List ByteArray} (h : Rs w ad cap X o R) (hk : 0 < cap → w'.heap[X]? = w.heap[X]?) : Rs w' ad cap X o R :=
  ⟨h.le, h.at_, fun h0 => by rw [hk h0]; exact h.blk h0, fun i hi => (World.cell?_of_block (hk (by have := h.le; omega))).trans (h.c i hi)⟩
theorem Rs.lt {w : World} {ad : Option Addr} {cap X o : Nat} {R : List ByteArray} (h : Rs w ad cap X o R) (h0 : 0 < cap) : X < w.heap.size := by
  obtain ⟨cur, hc, _⟩ := h.blk h0
  exact lt_of_block hc
theorem Rs.nil (w : World) : Rs w none 0 0 0 [] := ⟨Nat.le_refl _, fun h => absurd h (by decide), fun h => absurd h (by decide), fun i h => absurd h (by simp)⟩
/-- a piece of it -/
theorem Rs.piece {w : World} {ad : Option Addr} {cap X o : Nat} {R : List ByteArray} (h : Rs w ad cap X o R) {f t : Nat} (h1 : f ≤ t) (h2 : t ≤ R.length) (ad' : Option Addr) (had : f < t → ad' = some ⟨X, o + f, none⟩) : Rs w ad' (t - f) X (o + f) ((R.drop f).take (t - f)) := by
  have hle := h.le
  refine ⟨by rw [List.length_take]; omega, fun h0 => had (by omega), fun h0 => ?_, fun i hi => ?_⟩
  · obtain ⟨cur, hc, hs⟩ := h.blk (by omega)
    exact ⟨cur, hc, by omega⟩
  · have hi' : i < t - f := by simp at hi; omega
    rw [Nat.add_assoc, h.c (f + i) (by omega)]
    simp
/-- a sender's cells -/
def scs (s : Sn) (ad : Option Addr) (cap : Nat) : Array Value := #[.int .i64 s.wd, .int .i64 s.rs, .int .i64 s.go, .slice ad s.R.length cap, .int .i64 s.said, .int .i64 s.ti]
/-- a sender in memory -/
structure Sb (w : World) (b : Nat) (s : Sn) (ad : Option Addr) (cap X o : Nat) : Prop where
  cb : w.heap[b]? = some (.cells (scs s ad cap) 53 (0, 0))
  rs : Rs w ad cap X o s.R
section
variable {w : World} {b : Nat} {s : Sn} {ad : Option Addr} {cap X o : Nat}
theorem Sb.lt (h : Sb w b s ad cap X o) : b < w.heap.size := lt_of_block h.cb
theorem Sb.c0 (h : Sb w b s ad cap X o) : w.cell? ⟨b, 0, none⟩ = some (.int .i64 (s.wd : Int)) := by have h := h.cb; simp [World.cell?, h, scs]
theorem Sb.c1 (h : Sb w b s ad cap X o) : w.cell? ⟨b, 1, none⟩ = some (.int .i64 (s.rs : Int)) := by have h := h.cb; simp [World.cell?, h, scs]
theorem Sb.c2 (h : Sb w b s ad cap X o) : w.cell? ⟨b, 2, none⟩ = some (.int .i64 (s.go : Int)) := by have h := h.cb; simp [World.cell?, h, scs]
theorem Sb.c3 (h : Sb w b s ad cap X o) : w.cell? ⟨b, 3, none⟩ = some (.slice ad s.R.length cap) := by have h := h.cb; simp [World.cell?, h, scs]
theorem Sb.c4 (h : Sb w b s ad cap X o) : w.cell? ⟨b, 4, none⟩ = some (.int .i64 (s.said : Int)) := by have h := h.cb; simp [World.cell?, h, scs]
theorem Sb.c5 (h : Sb w b s ad cap X o) : w.cell? ⟨b, 5, none⟩ = some (.int .i64 (s.ti : Int)) := by have h := h.cb; simp [World.cell?, h, scs]
theorem Sb.z (h : Sb w b s ad cap X o) (k : Nat) : w.frozen? ⟨b, k, none⟩ = false := by have h := h.cb; simp [World.frozen?, h]
theorem blk_ne {w : World} {a b : Nat} {cs ds : Array Value} {s t : TypeId} (h : w.heap[a]? = some (.cells cs s (0, 0))) (k : w.heap[b]? = some (.cells ds t (0, 0))) (hn : s ≠ t) : a ≠ b := by
  rintro rfl
  rw [h] at k
  injection k with k
  injection k with _ k2
  exact hn k2
theorem Sb.ne (h : Sb w b s ad cap X o) (h0 : 0 < cap) : X ≠ b := by
  obtain ⟨cur, hc, _⟩ := h.rs.blk h0
  exact blk_ne hc h.cb (by decide)
theorem heap_set_self (w : World) (g o : Nat) (v : Value) (cur : Array Value) (t : TypeId) (fr : Nat × Nat) (h : w.heap[g]? = some (.cells cur t fr)) : (w.setCell ⟨g, o, none⟩ v).heap[g]? = some (.cells (cur.setIfInBounds o v) t fr) := by
  have hlt := lt_of_block h
  have h' : w.heap[g] = .cells cur t fr := by simpa [Array.getElem?_eq_getElem hlt] using h
  show (w.heap.modify g _)[g]? = _
  rw [Array.getElem?_eq_getElem (by simpa using hlt), Array.getElem_modify_self, h']
  rfl
theorem setCell_size (w : World) (a : Addr) (v : Value) : (w.setCell a v).heap.size = w.heap.size := by simp [World.setCell]
theorem Sb.drewN (h : Sb w b s ad cap X o) (n : Nat) : Sb (w.drewN n) b s ad cap X o := ⟨h.cb, h.rs.keep fun _ => rfl⟩
theorem Sb.drew (h : Sb w b s ad cap X o) : Sb w.drew b s ad cap X o := ⟨h.cb, h.rs.keep fun _ => rfl⟩
theorem Sb.below {w' : World} (h : Sb w b s ad cap X o) (hb : Below w.heap.size w w') : Sb w' b s ad cap X o := ⟨(hb.block b h.lt).trans h.cb, h.rs.keep fun h0 => hb.block X (h.rs.lt h0)⟩
theorem Sb.c3_ti (h : Sb w b s ad cap X o) (v : Nat) : Sb (w.setCell ⟨b, 5, none⟩ (.int .i64 (v : Int))) b { s with ti := v } ad cap X o :=
  ⟨heap_set_self w b 5 _ _ _ _ h.cb, h.rs.keep fun h0 => Below.heap_setCell _ ⟨b, 5, none⟩ _ X (h.ne h0)⟩
theorem Sb.c3_said (h : Sb w b s ad cap X o) (v : Nat) : Sb (w.setCell ⟨b, 4, none⟩ (.int .i64 (v : Int))) b { s with said := v } ad cap X o :=
  ⟨heap_set_self w b 4 _ _ _ _ h.cb, h.rs.keep fun h0 => Below.heap_setCell _ ⟨b, 4, none⟩ _ X (h.ne h0)⟩
end
/-- only block b is turned -/
structure On (b : Nat) (w w' : World) : Prop where
  os : w'.os = w.os
  tape : w'.tape = w.tape
  output : w'.output = w.output
  size : w.heap.size ≤ w'.heap.size
  block : ∀ k, k < w.heap.size → k ≠ b → w'.heap[k]? = w.heap[k]?
theorem On.refl (b : Nat) (w : World) : On b w w := ⟨rfl, rfl, rfl, Nat.le_refl _, fun _ _ _ => rfl⟩
theorem On.set {b : Nat} {w w' : World} (h : On b w w') (o : Nat) (v : Value) : On b w (w'.setCell ⟨b, o, none⟩ v) :=
  ⟨h.os, h.tape, h.output, by rw [setCell_size]; exact h.size, fun k hk hn => (Below.heap_setCell _ _ _ k hn).trans (h.block k hk hn)⟩
theorem On.drewN {b : Nat} {w w' : World} (h : On b w w') (n : Nat) : On b w (w'.drewN n) := ⟨h.os, h.tape, h.output, h.size, h.block⟩
theorem On.drew {b : Nat} {w w' : World} (h : On b w w') : On b w w'.drew := ⟨h.os, h.tape, h.output, h.size, h.block⟩
theorem On.below {b : Nat} {w w' : World} (h : On b w w') {B : Nat} (h1 : B ≤ b) (h2 : B ≤ w.heap.size) : Below B w w' := ⟨h.os, h.tape, h.output, h.size, fun k hk => h.block k (by omega) (by omega)⟩
theorem On.of_below {b : Nat} {w w' : World} (h : Below w.heap.size w w') : On b w w' := ⟨h.os, h.tape, h.output, h.size, fun k hk _ => h.block k hk⟩
theorem On.trans {b : Nat} {u v w : World} (h : On b u v) (k : On b v w) : On b u w :=
  ⟨k.os.trans h.os, k.tape.trans h.tape, k.output.trans h.output, Nat.le_trans h.size k.size, fun i hi hn => (k.block i (Nat.lt_of_lt_of_le hi h.size) hn).trans (h.block i hi hn)⟩
theorem On.alloc {b : Nat} {w w' : World} (h : On b w w') (o : Obj) : On b w (w'.alloc o) := h.trans (On.of_below ((Below.refl _ w').alloc (Nat.le_refl _) o))
theorem below_drewN {B : Nat} {w w' : World} (h : Below B w w') (n : Nat) : Below B w (w'.drewN n) := ⟨h.os, h.tape, h.output, h.size, h.block⟩
theorem below_drew {B : Nat} {w w' : World} (h : Below B w w') : Below B w w'.drew := ⟨h.os, h.tape, h.output, h.size, h.block⟩
theorem below_alloc (w : World) (o : Obj) : Below w.heap.size w (w.alloc o) := (Below.refl _ w).alloc (Nat.le_refl _) o

def newS (x y : Nat) : Sn := ⟨x, y, 0, [], 0, 0⟩
theorem newS_ok {x y : Nat} (h1 : 1 ≤ x) (h2 : x ≤ 8) (h3 : 1 ≤ y) (h4 : y ≤ 16) : (newS x y).ok := ⟨h1, h2, h3, h4, by simp [newS], Nat.le_refl _, Nat.zero_le _, Nat.zero_le _⟩
def may (x y : Int) : Prop := 1 ≤ x ∧ x ≤ 8 ∧ 1 ≤ y ∧ y ≤ 16
/-- what a call of New leaves -/
def NPost (x y : Int) (w : World) (e : Ending) (w' : World) : Prop :=
  (¬ may x y ∧ e = .returned (.tuple #[.pointer none, .int .i64 140]) ∧ w' = w) ∨ (may x y ∧ e = .returned (.tuple #[.pointer (some ⟨w.heap.size, 0, none⟩), .int .i64 0]) ∧ Sb w' w.heap.size (newS x.toNat y.toNat) none 0 0 0 ∧ Below w.heap.size w w')
theorem NPost.no {x y : Int} {w : World} (h : ¬ may x y) : NPost x y w (.returned (.tuple #[.pointer none, .int .i64 140])) w := .inl ⟨h, rfl, rfl⟩
set_option maxHeartbeats 1000000 in
theorem snew_any (w : World) {x y : Int} (hx : -9223372036854775808 ≤ x ∧ x ≤ 9223372036854775807) (hy : -9223372036854775808 ≤ y ∧ y ≤ 9223372036854775807) :
    Calls Try.prog 6 #[.int .i64 x, .int .i64 y] w (NPost x y w) := by
  by_cases h1 : x < 1
  · go_enter Try.func6, Try.ntmps6
    go_wp2
    go_ret2
    exact NPost.no (fun h => by obtain ⟨k1, k2, k3, k4⟩ := h; omega)
  by_cases h2 : 8 < x
  · go_enter Try.func6, Try.ntmps6
    go_wp2
    go_ret2
    exact NPost.no (fun h => by obtain ⟨k1, k2, k3, k4⟩ := h; omega)
  by_cases h3 : y < 1
  · go_enter Try.func6, Try.ntmps6
    go_wp2
    go_ret2
    exact NPost.no (fun h => by obtain ⟨k1, k2, k3, k4⟩ := h; omega)
  by_cases h4 : 16 < y
  · go_enter Try.func6, Try.ntmps6
    go_wp2
    go_ret2
    exact NPost.no (fun h => by obtain ⟨k1, k2, k3, k4⟩ := h; omega)
  obtain ⟨a, rfl⟩ : ∃ a : Nat, x = (a : Int) := ⟨x.toNat, by omega⟩
  obtain ⟨c, rfl⟩ : ∃ c : Nat, y = (c : Int) := ⟨y.toNat, by omega⟩
  go_enter Try.func6, Try.ntmps6
  go_wp2
  go_ret2
  exact .inr ⟨⟨by omega, by omega, by omega, by omega⟩, rfl, ⟨heap_alloc_new w _, Rs.nil _⟩, below_alloc w _⟩
set_option maxHeartbeats 1000000 in
theorem acked_any {w : World} {b : Nat} {s : Sn} {ad : Option Addr} {cap X o : Nat} (h : Sb w b s ad cap X o) :
    Calls Try.prog 16 #[.pointer (some ⟨b, 0, none⟩)] w fun e w' => e = .returned (.int .i64 (s.go : Int)) ∧ w' = w := by
  have c1 := h.c2
  clear h
  go_enter Try.func16, Try.ntmps16
  go_wp2
  go_ret
  exact ⟨rfl, rfl⟩
set_option maxHeartbeats 1000000 in
theorem said_any {w : World} {b : Nat} {s : Sn} {ad : Option Addr} {cap X o : Nat} (h : Sb w b s ad cap X o) :
    Calls Try.prog 17 #[.pointer (some ⟨b, 0, none⟩)] w fun e w' => e = .returned (.int .i64 (s.said : Int)) ∧ w' = w := by
  have c1 := h.c4
  clear h
  go_enter Try.func17, Try.ntmps17
  go_wp2
  go_ret
  exact ⟨rfl, rfl⟩
set_option maxHeartbeats 1000000 in
theorem timer_any {w : World} {b : Nat} {s : Sn} {ad : Option Addr} {cap X o : Nat} (h : Sb w b s ad cap X o) :
    Calls Try.prog 20 #[.pointer (some ⟨b, 0, none⟩)] w fun e w' => e = .returned (.int .i64 (s.ti : Int)) ∧ w' = w := by
  have c1 := h.c5
  clear h
  go_enter Try.func20, Try.ntmps20
  go_wp2
  go_ret
  exact ⟨rfl, rfl⟩
def Sn.tick (s : Sn) : Sn := { s with ti := s.ti - 1 }
theorem Sn.tick_ok {s : Sn} (h : s.ok) : s.tick.ok := ⟨h.w1, h.w8, h.r1, h.r2, h.l, h.gs, h.sw, by have := h.t; show s.ti - 1 ≤ s.rs; omega⟩
set_option maxHeartbeats 1000000 in
theorem tick_any {w : World} {b : Nat} {s : Sn} {ad : Option Addr} {cap X o : Nat} (hk : s.ok) (h : Sb w b s ad cap X o) :
    Calls Try.prog 14 #[.pointer (some ⟨b, 0, none⟩)] w fun e w' => e = .returned (.tuple #[]) ∧ Sb w' b s.tick ad cap X o ∧ On b w w' := by
  have c1 := h.c5
  have z1 := h.z 5
  have h16 : s.ti ≤ 16 := Nat.le_trans hk.t hk.r2
  have HH := hide h
  clear hk h
  by_cases ht : s.ti = 0
  · have e1 : s.tick = s := by unfold Sn.tick; rw [ht]; cases s; simp_all
    rw [e1]
    rw [ht] at c1
    clear ht e1
    go_enter Try.func14, Try.ntmps14
    go_wp2
    go_end0
    exact ⟨rfl, HH.out, On.refl b w⟩
  · obtain ⟨n, hn⟩ : ∃ n, s.ti = n + 1 := ⟨s.ti - 1, by omega⟩
    have HN := hide hn
    rw [hn] at c1
    have hn16 : n ≤ 15 := by omega
    clear ht hn
    go_enter Try.func14, Try.ntmps14
    go_wp2
    go_end0
    refine ⟨rfl, ?_, (On.refl b w).set _ _⟩
    have := HH.out.c3_ti n
    rw [show s.tick = { s with ti := n } by unfold Sn.tick; rw [HN.out]; rfl]
    exact this
set_option maxHeartbeats 1000000 in
theorem end_any {w : World} {b : Nat} {s : Sn} {ad : Option Addr} {cap X o : Nat} (hk : s.go + s.R.length ≤ 32) (h : Sb w b s ad cap X o) :
    Calls Try.prog 32 #[.pointer (some ⟨b, 2, none⟩)] w fun e w' => e = .returned (.int .i64 (s.len : Int)) ∧ ∃ m, w' = w.drewN m := by
  have c1 := h.c2
  have c2 := h.c3
  obtain ⟨n, hn⟩ : ∃ n, s.len = n := ⟨_, rfl⟩
  have hn2 : (s.go : Int) + (s.R.length : Int) = (n : Int) := by rw [← hn]; unfold Sn.len; omega
  rw [hn]
  have hn3 : n ≤ 32 := by omega
  clear h hn hk
  go_enter Try.func32, Try.ntmps32
  go_wp2
  go_quiet (fail)
  go_wp2
  go_ret
  exact ⟨rfl, _, rfl⟩
set_option maxHeartbeats 1000000 in
theorem len_any {w : World} {b : Nat} {s : Sn} {ad : Option Addr} {cap X o : Nat} (hk : s.go + s.R.length ≤ 32) (h : Sb w b s ad cap X o) :
    Calls Try.prog 19 #[.pointer (some ⟨b, 0, none⟩)] w fun e w' => e = .returned (.int .i64 (s.len : Int)) ∧ ∃ m, w' = w.drewN m := by
  have HE := hide (end_any hk h)
  clear h hk
  go_enter Try.func19, Try.ntmps19
  go_wp2_with fail
  refine HE.out.mono ?_
  rintro e w1 ⟨rfl, m, rfl⟩
  go_wp2_with fail
  go_ret
  exact ⟨rfl, m, rfl⟩
end Go.Proofs.Yteckkaapibbpcaa
