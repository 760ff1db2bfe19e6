import Derived.Test.YtkfnedhllfdghaaGreatDoorMgAW
import Derived.Deep.AppendLies
import Derived.Lib.SmallJoins
import Derived.Test.YtkfnedhllfdghaaGreatDoorMgAR
import Derived.Test.YtkfnedhllfdghaaGreatDoorMgAX
import Derived.Test.YtkfnedhllfdghaaGreatDoorMgBA
import Derived.Test.YtkfnedhllfdghaaGreatDoorMgBD
import Derived.BigQuiet

section
namespace Go.Proofs.YtkfnedhllfdghaaGreatDoor
set_option maxRecDepth 20000
open Go.RowKit Go.Shelf

def flatI (xs : List In) : List Value := xs.flatMap In.cs
theorem flatI_len (xs : List In) : (flatI xs).length = xs.length * 6 := by
  unfold flatI
  induction xs with
  | nil => rfl
  | cons x r ih => simp only [List.flatMap_cons, List.length_append, ih, List.length_cons]; simp only [In.cs, List.length_cons, List.length_nil]; omega
theorem flatI_at {xs : List In} {j : Nat} {u : Value} (h : (flatI xs)[j]? = some u) : j / 6 < xs.length ∧ (xs[j / 6]!).cs[j % 6]? = some u := by
  have hl : j < (flatI xs).length := by
    rcases Nat.lt_or_ge j (flatI xs).length with h' | h'
    · exact h'
    · rw [List.getElem?_eq_none h'] at h; cases h
  rw [flatI_len] at hl
  have h1 : j / 6 < xs.length := by omega
  refine ⟨h1, ?_⟩
  have h2 := flat_get In.cs 6 (fun _ => rfl) xs (j / 6) (j % 6) h1 (by omega)
  rw [show j / 6 * 6 + j % 6 = j by omega] at h2
  rw [← h2]; exact h
theorem flatI_of {xs : List In} {j i : Nat} {u : Value} (hj : j < xs.length) (hi : i < 6) (h : (xs[j]!).cs[i]? = some u) : (flatI xs)[j * 6 + i]? = some u :=
  (flat_get In.cs 6 (fun _ => rfl) xs j i hj hi).trans h
theorem flatI_one (xs : List In) : ∀ u ∈ flatI xs, u.oneCell' = true := by
  intro u hu
  unfold flatI at hu
  obtain ⟨x, _, hx⟩ := List.mem_flatMap.1 hu
  simp only [In.cs, List.mem_cons, List.not_mem_nil, or_false] at hx
  rcases hx with rfl | rfl | rfl | rfl | rfl | rfl <;> rfl
theorem infoIns : (Tryz.prog.info? 189).map (fun i => (i.zero, i.size, i.bytes)) = some (some (.agg #[.int .i64 0, .int .i64 0, .int .i64 0, .int .i64 0, .int .i64 0, .int .u64 0]), 6, 48) := by kernel_rfl
theorem addr_add (g o k : Nat) : (⟨g, o, none⟩ : Addr).add k = ⟨g, o + k, none⟩ := by
  unfold Addr.add
  split
  · rename_i h; rw [h, Nat.add_zero]
  · rfl
theorem own_some {w : World} {base e size n : Nat} {v : Value} {xs : List Value} (h : w.ownsRow base e size v n xs) (h0 : 0 < n) : ∃ g cap, v = .slice (some ⟨g, 0, none⟩) n cap := by
  rcases h.2 with ⟨_, h1⟩ | ⟨g, cap, cur, rfl, _⟩
  · omega
  · exact ⟨g, cap, rfl⟩
theorem own_cdn {w : World} {base B : Nat} {v : Value} {xs : List In} (h : w.ownsRow base 189 6 v xs.length (flatI xs)) (h0 : 0 < xs.length) (hB : v.ownBlock ≠ some B) : Cdn w v xs B := by
  rcases h.2 with ⟨_, h1⟩ | ⟨g, cap, cur, rfl, hg, hh, _⟩
  · omega
  · refine ⟨g, 0, cap, rfl, lt_of_block hh, fun e => hB (by rw [← e]; rfl), fun j hj i u hi => ?_⟩
    have hi6 : i < 6 := by
      rcases Nat.lt_or_ge i 6 with h' | h'
      · exact h'
      · rw [List.getElem?_eq_none (by simpa [In.cs] using h')] at hi; cases hi
    have := h.cells (g := g) rfl (j * 6 + i) u (flatI_of hj hi6 hi)
    rw [addr_add] at this
    rw [Nat.add_assoc]
    exact this
theorem Cd.drew {w : World} {v : Value} {xs : List In} (h : Cd w v xs) : Cd w.drew v xs := ⟨h.form⟩
set_option maxRecDepth 20000 in
set_option maxHeartbeats 1000000 in
theorem cloneI {w : World} {v : Value} {xs : List In} (h : Cd w v xs) (h0 : 0 < xs.length) (h64 : xs.length ≤ 64) :
    Calls Tryz.prog 222 #[v] w fun e w' => ∃ v', e = .returned v' ∧ w'.ownsRow w.heap.size 189 6 v' xs.length (flatI xs) ∧ Below w.heap.size w w' := by
  obtain ⟨i0, hi0, hz0, hz1, hz2⟩ := info_parts infoIns
  obtain ⟨p, cap, rfl, h2⟩ := h
  obtain ⟨g, off, rfl, hg, hc⟩ := h2 h0
  have he : ∀ w : World, (binOp .eql 60 (.slice (some ⟨g, off, none⟩) xs.length cap) (.slice none 0 0)).run Tryz.prog w = .ok (.bool false) w := fun _ => by kernel_rfl
  have HC : Hid (∀ j u, (flatI xs)[j]? = some u → w.cell? ((⟨g, off, none⟩ : Addr).add j) = some u) := fun j u hu => by
    rw [addr_add]
    obtain ⟨h1, h3⟩ := flatI_at hu
    have := hc (j / 6) h1 (j % 6) u h3
    rwa [show off + j / 6 * 6 + j % 6 = off + j by omega] at this
  clear hc h2
  go_enter Tryz.func222, Tryz.ntmps222
  go_wp2_with (at_builtin; refine wpList_append_own _ rfl _ _ 60 rfl w.heap.size 189 i0 (.agg #[.int .i64 0, .int .i64 0, .int .i64 0, .int .i64 0, .int .i64 0, .int .u64 0]) 6 48 Tryz.underlying60 hi0 hz0 hz1 hz2 rfl (by decide) (.slice (some ⟨w.heap.size, 0, none⟩) 0 0) 0 [] rfl (World.ownsRow_made w #[] 0 (Nat.le_refl _) (by decide) rfl) ⟨g, off, none⟩ xs.length cap (flatI xs) rfl (flatI_len xs) (fun j u hu => Lib.cell?_alloc_some _ (HC.out j u hu)) (flatI_one xs) (by unfold maxLen; omega) (by omega) (by rw [World.size_alloc]; omega) ?_; intro v' w1 hown hgrow hnil)
  go_ret
  rw [Nat.zero_add, List.nil_append] at hown
  exact ⟨_, rfl, hown, ((Below.refl _ w).alloc (Nat.le_refl _) _).grown hgrow (by rw [World.size_alloc]; omega) (fun k hk => by simp only [Value.ownBlock] at hk; injection hk with hk; omega)⟩
set_option maxRecDepth 20000 in
set_option maxHeartbeats 2000000 in
theorem new_ok {w : World} {v : Value} {fuel : Nat} {xs : List In} (hx : ∀ x ∈ xs, x.Fits) (h : Cd w v xs) (hc : Pg.checkE fuel xs = (0, 0)) (h0 : 0 < xs.length) (h64 : xs.length ≤ 64) :
    Calls Tryz.prog 185 #[.agg #[.int .i64 (fuel : Int), v]] w fun e w' => ∃ B v', e = .returned (.tuple #[.pointer (some ⟨B, 0, none⟩), .int .i64 0]) ∧ Mb w' B Im.m0 v' fuel ∧ Cdn w' v' xs B ∧ w.heap.size ≤ B ∧ Below w.heap.size w w' := by
  have HC := hide (fun w1 h1 => check_any fuel xs (fun x hm => (hx x hm).k) v w1 h1)
  rw [hc] at HC
  have HCd := hide h
  have HCl := hide (fun w1 (h1 : Cd w1 v xs) => cloneI h1 h0 h64)
  obtain ⟨p, cap, rfl, -⟩ := h
  clear hc hx
  go_enter Tryz.func185, Tryz.ntmps185
  go_wp2_with fail
  refine (HC.out _ (HCd.out.below (below_one w _) (Nat.le_refl _))).mono ?_
  rintro e w1 ⟨rfl, hb1⟩
  have HB1 : Hid (Below w.heap.size w w1) := (below_one w _).trans (hb1.mono (by simp))
  have hp : w1.heap[w.heap.size]? = some (.cells #[.int .i64 (fuel : Int), .slice p xs.length cap] 62 (0, 0)) := (hb1.block w.heap.size (by simp)).trans (heap_alloc_new w _)
  have p0 : w1.cell? ⟨w.heap.size, 0, none⟩ = some (.int .i64 (fuel : Int)) := by simp [World.cell?, hp]
  have p1 : w1.cell? ⟨w.heap.size, 1, none⟩ = some (.slice p xs.length cap) := by simp [World.cell?, hp]
  have hpl : w.heap.size < w1.heap.size := lt_of_block hp
  clear hb1
  go_wp2_with fail
  go_region_held3 (fun w' => w'.cell? ⟨w.heap.size, 0, none⟩ = some (.int .i64 (fuel : Int)) ∧ w'.cell? ⟨w.heap.size, 1, none⟩ = some (.slice p xs.length cap)) (first | exact ⟨q0, q1⟩ | exact ⟨p0, p1⟩ | exact ⟨Lib.cell?_alloc_some _ q0, Lib.cell?_alloc_some _ q1⟩ | go_keep) (first | (go_at_call 222; refine (HCl.out _ (HCd.out.below HB1.out (Nat.le_refl _)).drew).mono ?_; rintro e w2 ⟨v2, rfl, ho2, hb2'⟩; obtain ⟨g2, cap2, rfl⟩ := own_some ho2 h0; have hb2 := below_undrew hb2'; have q0 : w2.cell? ⟨w.heap.size, 0, none⟩ = some (.int .i64 (fuel : Int)) := (hb2.cell (p := ⟨w.heap.size, 0, none⟩) hpl).trans p0; have q1 : w2.cell? ⟨w.heap.size, 1, none⟩ = some (.slice p xs.length cap) := (hb2.cell (p := ⟨w.heap.size, 1, none⟩) hpl).trans p1))
  go_wp2_with fail
  go_ret2
  have hg2 : g2 < w2.heap.size := (ho2.lt g2 rfl).2
  have hB2 : Below w.heap.size w w2 := HB1.out.trans (hb2.mono HB1.out.size)
  exact ⟨w2.heap.size, _, rfl, ⟨heap_alloc_new w2 _, ⟨rfl, rfl, rfl⟩⟩, (own_cdn ho2 h0 (by simp [Value.ownBlock]; omega)).grown (i_grown_one w2 _ _), hB2.size, hB2.trans ((below_one w2 _).mono hB2.size)⟩
set_option maxRecDepth 20000 in
set_option maxHeartbeats 2000000 in
theorem new_no {w : World} {v : Value} {fuel : Int} {xs : List In} (hx : ∀ x ∈ xs, x.Fits) (h : Cd w v xs) (hc : (Pg.checkE fuel xs).1 ≠ 0) :
    Calls Tryz.prog 185 #[.agg #[.int .i64 fuel, v]] w fun e w' => e = .returned (.tuple #[.pointer none, .int .i64 (Pg.checkE fuel xs).1]) ∧ Below w.heap.size w w' := by
  have HC := hide (fun w1 h1 => check_any fuel xs (fun x hm => (hx x hm).k) v w1 h1)
  have HCd := hide h
  obtain ⟨p, cap, rfl, -⟩ := h
  clear hx
  generalize Pg.checkE fuel xs = E at *
  have hb : (E.1 != 0) = true := by rw [bne_iff_ne]; exact hc
  clear hc
  go_enter Tryz.func185, Tryz.ntmps185
  go_wp2_with fail
  refine (HC.out _ (HCd.out.below (below_one w _) (Nat.le_refl _))).mono ?_
  rintro e w1 ⟨rfl, hb1⟩
  go_wp2_with fail
  go_ret2
  exact ⟨rfl, (below_one w _).trans (hb1.mono (by simp))⟩
namespace Im
def resC (m : Mc) : Nat := if m.ov = true ∧ m.en = 0 then 0 else m.en
def resB (m : Mc) : Nat := if m.ov = true ∧ m.en = 0 then m.R[0]! else 0
end Im
set_option maxHeartbeats 400000 in
theorem over_any {w : World} {B fuel : Nat} {m : Mc} {v : Value} (h : Mb w B m v fuel) : Calls Tryz.prog 79 #[.pointer (some ⟨B, 0, none⟩)] w fun e w' => e = .returned (.bool m.ov) ∧ w' = w := by
  have c := h.cell (h.l8.g_ov v fuel)
  go_enter Tryz.func79, Tryz.ntmps79
  go_wp2
  go_ret
  exact ⟨rfl, rfl⟩
set_option maxHeartbeats 400000 in
theorem done_any {w : World} {B fuel : Nat} {m : Mc} {v : Value} (h : Mb w B m v fuel) : Calls Tryz.prog 78 #[.pointer (some ⟨B, 0, none⟩)] w fun e w' => e = .returned (.int .i64 (m.dn : Int)) ∧ w' = w := by
  have c := h.cell (h.l8.g_dn v fuel)
  go_enter Tryz.func78, Tryz.ntmps78
  go_wp2
  go_ret
  exact ⟨rfl, rfl⟩
set_option maxHeartbeats 400000 in
theorem result_any {w : World} {B fuel : Nat} {m : Mc} {v : Value} (h : Mb w B m v fuel) : Calls Tryz.prog 80 #[.pointer (some ⟨B, 0, none⟩)] w fun e w' => e = .returned (.agg #[.int .i64 (Im.resC m : Int), .int .u64 (Im.resB m : Int)]) ∧ Below w.heap.size w w' := by
  have c32 := h.cell (h.l8.g_ov v fuel)
  have c33 := h.cell (h.l8.g_en v fuel)
  have c3 := h.cell (h.l8.gR v fuel 0 (by decide))
  have hlt := h.lt
  unfold Im.resC Im.resB
  by_cases ho : m.ov = true
  · rw [ho] at c32
    by_cases he : m.en = 0
    · rw [if_pos ⟨ho, he⟩, if_pos ⟨ho, he⟩]
      rw [he] at c33
      generalize m.R[0]! = r at *
      go_enter Tryz.func80, Tryz.ntmps80
      go_wp2
      exact bodyPost_ret (results_cell_row (p := 2) (ty := 46) rfl _ _ w.heap.size 46 _ (0, 0) _ rfl (heap_alloc_new w _) Tryz.underlying46 rfl (by kernel_rfl)) rfl ⟨rfl, below_one w _⟩
    · rw [if_neg (fun k => he k.2), if_neg (fun k => he k.2)]
      have hb : ((m.en : Int) == 0) = false := by rw [beq_eq_false_iff_ne]; omega
      clear he
      generalize m.en = q at *
      go_enter Tryz.func80, Tryz.ntmps80
      go_wp2
      exact bodyPost_ret (results_cell_row (p := 2) (ty := 46) rfl _ _ w.heap.size 46 _ (0, 0) _ rfl (heap_alloc_new w _) Tryz.underlying46 rfl (by kernel_rfl)) rfl ⟨rfl, below_one w _⟩
  · rw [if_neg (fun k => ho k.1), if_neg (fun k => ho k.1)]
    rw [Bool.not_eq_true] at ho
    rw [ho] at c32
    generalize m.en = q at *
    go_enter Tryz.func80, Tryz.ntmps80
    go_wp2
    exact bodyPost_ret (results_cell_row (p := 2) (ty := 46) rfl _ _ w.heap.size 46 _ (0, 0) _ rfl (heap_alloc_new w _) Tryz.underlying46 rfl (by kernel_rfl)) rfl ⟨rfl, below_one w _⟩
end Go.Proofs.YtkfnedhllfdghaaGreatDoor
end

section
namespace Go.Proofs.YtkfnedhllfdghaaGreatDoor
set_option maxRecDepth 20000
open Go.RowKit Go.Shelf

namespace Im
/-- one round of a run: the machine, what was told -/
def nxt (xs : List In) (fuel : Nat) (s : Mc × List (Nat × ByteArray)) : Mc × List (Nat × ByteArray) :=
  if s.1.ov = true then s else ((stp xs fuel s.1).1, if (stp xs fuel s.1).2.1 = 0 then s.2 else s.2 ++ [(stp xs fuel s.1).2])
def itr (xs : List In) (fuel : Nat) (m : Mc) : Nat → Mc × List (Nat × ByteArray)
  | 0 => (m, [])
  | k + 1 => nxt xs fuel (itr xs fuel m k)
/-- acts as cells -/
def acs (l : List (Nat × ByteArray)) : List Value := l.flatMap fun a => [.int .i64 (a.1 : Int), .string a.2]
end Im
theorem itr_over {xs : List In} {fuel : Nat} {m : Mc} {k : Nat} (h : (Im.itr xs fuel m k).1.ov = true) : ∀ j, Im.itr xs fuel m (k + j) = Im.itr xs fuel m k
  | 0 => rfl
  | j + 1 => by
    show Im.nxt xs fuel (Im.itr xs fuel m (k + j)) = _
    rw [itr_over h j]
    unfold Im.nxt
    rw [if_pos h]
theorem itr_ok {xs : List In} {fuel : Nat} {m : Mc} (h : m.Ok xs.length fuel) (g : ∀ x ∈ xs, x.Good xs.length) : ∀ k, (Im.itr xs fuel m k).1.Ok xs.length fuel
  | 0 => h
  | k + 1 => by
    have hi := itr_ok h g k
    show (Im.nxt xs fuel (Im.itr xs fuel m k)).1.Ok _ _
    unfold Im.nxt
    split
    · exact hi
    · rename_i ho; exact stp_ok hi (by simpa using ho) g
theorem itr_dn {xs : List In} {fuel : Nat} {m : Mc} (h : m.Ok xs.length fuel) (g : ∀ x ∈ xs, x.Good xs.length) : ∀ k, (Im.itr xs fuel m k).1.ov = false → (Im.itr xs fuel m k).1.dn = m.dn + k
  | 0, _ => rfl
  | k + 1, ho => by
    by_cases h1 : (Im.itr xs fuel m k).1.ov = true
    · have h2 := itr_over h1 1
      rw [h2, h1] at ho; cases ho
    · show (Im.nxt xs fuel (Im.itr xs fuel m k)).1.dn = _
      unfold Im.nxt
      rw [if_neg h1]
      show (Im.stp xs fuel _).1.dn = _
      rw [stp_dn, itr_dn h g k (by simpa using h1)]; omega
theorem itr_len (xs : List In) (fuel : Nat) (m : Mc) : ∀ k, (Im.itr xs fuel m k).2.length ≤ k
  | 0 => Nat.le_refl _
  | k + 1 => by
    have hi := itr_len xs fuel m k
    show (Im.nxt xs fuel (Im.itr xs fuel m k)).2.length ≤ _
    unfold Im.nxt
    split
    · omega
    · dsimp only
      split
      · omega
      · simp; omega
theorem acs_len (l : List (Nat × ByteArray)) : (Im.acs l).length = l.length * 2 := by
  unfold Im.acs
  induction l with
  | nil => rfl
  | cons x r ih => simp only [List.flatMap_cons, List.length_append, ih, List.length_cons, List.length_nil]; omega
theorem acs_app (l : List (Nat × ByteArray)) (a : Nat × ByteArray) : Im.acs (l ++ [a]) = Im.acs l ++ [.int .i64 (a.1 : Int), .string a.2] := by
  unfold Im.acs; simp
theorem infoAct : (Tryz.prog.info? 207).map (fun i => (i.zero, i.size, i.bytes)) = some (some (.agg #[.int .i64 0, .string ⟨#[]⟩]), 2, 24) := by kernel_rfl
theorem rown_grown {w w' : World} {base e size n : Nat} {v : Value} {xs : List Value} {r : Option Nat} (h : w.ownsRow base e size v n xs) (g : w.grownBy w' r) (hn : ∀ k, v.ownBlock = some k → some k ≠ r) : w'.ownsRow base e size v n xs := by
  refine ⟨h.1, ?_⟩
  rcases h.2 with h1 | ⟨k, cap, cur, rfl, hk, hh, h2⟩
  · exact .inl h1
  · exact .inr ⟨k, cap, cur, rfl, hk, (g.block k (lt_of_block hh) (hn k rfl)).trans hh, h2⟩
theorem rown_slice {w : World} {base e size n : Nat} {v : Value} {xs : List Value} (h : w.ownsRow base e size v n xs) : ∃ ad cap, v = .slice ad n cap := by
  rcases h.2 with ⟨h1, rfl⟩ | ⟨g, cap, cur, rfl, _⟩
  · exact ⟨_, _, h1⟩
  · exact ⟨_, _, rfl⟩
theorem grown_low {a b c : World} {B : Nat} {r : Option Nat} (h : a.grownBy b (some B)) (k : b.grownBy c r) (hr : ∀ g, r = some g → a.heap.size ≤ g) : a.grownBy c (some B) :=
  ⟨k.os.trans h.os, k.tape.trans h.tape, k.output.trans h.output, Nat.le_trans h.size k.size, fun i hi hn => (k.block i (Nat.lt_of_lt_of_le hi h.size) (fun e => absurd (hr i e.symm) (by omega))).trans (h.block i hi hn)⟩
end Go.Proofs.YtkfnedhllfdghaaGreatDoor
end

section
namespace Go.Proofs.YtkfnedhllfdghaaGreatDoor
set_option maxRecDepth 20000
open Go.RowKit Go.Shelf

namespace Im
/-- what a program tells -/
def chk (l : List (Nat × ByteArray)) : List ByteArray := (l.filter fun a => a.1 == 1).map (·.2)
def pcs (l : List (Nat × ByteArray)) : List ByteArray := (l.filter fun a => !(a.1 == 1)).map (·.2)
def end_ (xs : List In) (fuel : Nat) : Mc × List (Nat × ByteArray) := itr xs fuel m0 fuel
def strs (l : List ByteArray) : List Value := l.map Value.string
end Im
/-- what came back of Whole -/
structure Out (w : World) (base : Nat) (o : Value) (I : Mc × List (Nat × ByteArray)) : Prop where
  form : ∃ cv pv, o = .agg #[.int .i64 (Im.resC I.1 : Int), .int .u64 (Im.resB I.1 : Int), cv, pv, .int .i64 (I.1.dn : Int)] ∧ w.ownsRow base 9 1 cv (Im.chk I.2).length (Im.strs (Im.chk I.2)) ∧ w.ownsRow base 9 1 pv (Im.pcs I.2).length (Im.strs (Im.pcs I.2))
/-- the library's tables -/
structure Tbs (w : World) : Prop where
  t64 : Tab64 w
  t10 : Tab10 w
theorem Tbs.below {a b : World} (h : Tbs a) (k : Below a.heap.size a b) : Tbs b := ⟨fun j hj => (k.cell (p := ⟨2, j, none⟩) (World.block_lt_of_cell? _ _ (h.t64 j hj))).trans (h.t64 j hj), tab10_below h.t10 k⟩
theorem Tbs.lt64 {a : World} (h : Tbs a) : 2 < a.heap.size := World.block_lt_of_cell? _ _ (h.t64 0 (by decide))
theorem Tbs.lt10 {a : World} (h : Tbs a) : 3 < a.heap.size := by
  have h := h.t10
  unfold Tab10 Lib.TabIs World.var? at h
  simp only [glob10, Option.bind_some] at h
  rcases Nat.lt_or_ge 3 a.heap.size with h' | h'
  · exact h'
  · rw [Array.getElem?_eq_none h'] at h; simp at h
theorem Tbs.env {w w' : World} {B : Nat} (h : Tbs w) (k : Below w.heap.size w w') (hB : w.heap.size ≤ B) : Env w' B := ⟨(h.below k).t64, (h.below k).t10, by have := h.lt64; omega, by have := h.lt10; omega⟩
theorem acs_at (l : List (Nat × ByteArray)) (i : Nat) (hi : i < l.length) : (Im.acs l)[i * 2]? = some (.int .i64 ((l[i]!).1 : Int)) ∧ (Im.acs l)[i * 2 + 1]? = some (.string (l[i]!).2) := by
  have h0 := flat_get (fun a : Nat × ByteArray => [Value.int .i64 (a.1 : Int), .string a.2]) 2 (fun _ => rfl) l i 0 hi (by decide)
  have h1 := flat_get (fun a : Nat × ByteArray => [Value.int .i64 (a.1 : Int), .string a.2]) 2 (fun _ => rfl) l i 1 hi (by decide)
  exact ⟨h0, h1⟩
theorem chk_app (l : List (Nat × ByteArray)) (a : Nat × ByteArray) : Im.chk (l ++ [a]) = if a.1 = 1 then Im.chk l ++ [a.2] else Im.chk l := by
  unfold Im.chk
  rw [List.filter_append, List.map_append]
  by_cases h : a.1 = 1
  · rw [if_pos h]; simp [h]
  · rw [if_neg h]; simp [h]
theorem pcs_app (l : List (Nat × ByteArray)) (a : Nat × ByteArray) : Im.pcs (l ++ [a]) = if a.1 = 1 then Im.pcs l else Im.pcs l ++ [a.2] := by
  unfold Im.pcs
  rw [List.filter_append, List.map_append]
  by_cases h : a.1 = 1
  · rw [if_pos h]; simp [h]
  · rw [if_neg h]; simp [h]
theorem strs_app (l : List ByteArray) (a : ByteArray) : Im.strs (l ++ [a]) = Im.strs l ++ [.string a] := by unfold Im.strs; simp
theorem chk_len (l : List (Nat × ByteArray)) : (Im.chk l).length ≤ l.length := by unfold Im.chk; rw [List.length_map]; exact List.length_filter_le _ _
theorem pcs_len (l : List (Nat × ByteArray)) : (Im.pcs l).length ≤ l.length := by unfold Im.pcs; rw [List.length_map]; exact List.length_filter_le _ _
theorem take_one (l : List (Nat × ByteArray)) (i : Nat) (h : i < l.length) : l.take (i + 1) = l.take i ++ [l[i]!] := by
  rw [List.take_add_one, getElem!_pos l i h, List.getElem?_eq_getElem h]; rfl
/-- the outcome under way -/
def Ob (w : World) (O : Nat) (cv pv : Value) : Prop := w.heap[O]? = some (.cells #[.int .i64 0, .int .u64 0, cv, pv, .int .i64 0] 59 (0, 0))
theorem Ob.cells {w : World} {O : Nat} {cv pv : Value} (h : Ob w O cv pv) : w.cell? ⟨O, 2, none⟩ = some cv ∧ w.cell? ⟨O, 3, none⟩ = some pv ∧ w.cell? ⟨O, 0, none⟩ = some (.int .i64 0) ∧ w.cell? ⟨O, 1, none⟩ = some (.int .u64 0) ∧ w.cell? ⟨O, 4, none⟩ = some (.int .i64 0) ∧ ∀ i, w.frozen? ⟨O, i, none⟩ = false := by
  unfold Ob at h
  exact ⟨by simp [World.cell?, h], by simp [World.cell?, h], by simp [World.cell?, h], by simp [World.cell?, h], by simp [World.cell?, h], fun i => by simp [World.frozen?, h]⟩
theorem Ob.lt {w : World} {O : Nat} {cv pv : Value} (h : Ob w O cv pv) : O < w.heap.size := lt_of_block h
theorem Ob.grown {w w' : World} {O : Nat} {cv pv : Value} (h : Ob w O cv pv) {r : Option Nat} (g : w.grownBy w' r) (hn : some O ≠ r) : Ob w' O cv pv := (g.block O (lt_of_block h) hn).trans h
theorem Ob.set2 {w : World} {O : Nat} {cv pv : Value} (h : Ob w O cv pv) (u : Value) : Ob (w.setCell ⟨O, 2, none⟩ u) O u pv := by
  unfold Ob at *
  have hlt := lt_of_block h
  have h' : w.heap[O] = .cells #[.int .i64 0, .int .u64 0, cv, pv, .int .i64 0] 59 (0, 0) := by simpa [Array.getElem?_eq_getElem hlt] using h
  show (w.heap.modify O _)[O]? = _
  rw [Array.getElem?_eq_getElem (by simpa using hlt), Array.getElem_modify_self, h']
  rfl
theorem Ob.set3 {w : World} {O : Nat} {cv pv : Value} (h : Ob w O cv pv) (u : Value) : Ob (w.setCell ⟨O, 3, none⟩ u) O cv u := by
  unfold Ob at *
  have hlt := lt_of_block h
  have h' : w.heap[O] = .cells #[.int .i64 0, .int .u64 0, cv, pv, .int .i64 0] 59 (0, 0) := by simpa [Array.getElem?_eq_getElem hlt] using h
  show (w.heap.modify O _)[O]? = _
  rw [Array.getElem?_eq_getElem (by simpa using hlt), Array.getElem_modify_self, h']
  rfl
theorem block_set {w : World} {Y T : Nat} {cs : Array Value} (h : w.heap[Y]? = some (.cells cs T (0, 0))) (i : Nat) (u : Value) : (w.setCell ⟨Y, i, none⟩ u).heap[Y]? = some (.cells (cs.setIfInBounds i u) T (0, 0)) := by
  have hlt := lt_of_block h
  have h' : w.heap[Y] = .cells cs T (0, 0) := by simpa [Array.getElem?_eq_getElem hlt] using h
  show (w.heap.modify Y _)[Y]? = _
  rw [Array.getElem?_eq_getElem (by simpa using hlt), Array.getElem_modify_self, h']
  rfl
theorem rown_low {w : World} {base b2 e size n : Nat} {v : Value} {xs : List Value} (h : w.ownsRow base e size v n xs) (hb : b2 ≤ base) : w.ownsRow b2 e size v n xs := by
  refine ⟨h.1, ?_⟩
  rcases h.2 with h1 | ⟨k, cap, cur, rfl, hk, h2⟩
  · exact .inl h1
  · exact .inr ⟨k, cap, cur, rfl, Nat.le_trans hb hk, h2⟩
theorem i_below_of_grown {a b c : World} {O Y n : Nat} (h : a.grownBy b (some O)) (k : b.grownBy c (some Y)) (hO : n ≤ O) (hY : n ≤ Y) (hn : n ≤ a.heap.size) : Below n a c :=
  ⟨k.os.trans h.os, k.tape.trans h.tape, k.output.trans h.output, Nat.le_trans h.size k.size, fun i hi => (k.block i (Nat.lt_of_lt_of_le hi (Nat.le_trans hn h.size)) (by simp; omega)).trans (h.block i (Nat.lt_of_lt_of_le hi hn) (by simp; omega))⟩
theorem res5 {fn : Func} (h : fn.results = #[.cell 2 59, .tmp 3]) (tmps : Array Value) (w : World) (Y : Nat) (cs : Array Value) (e : Value) (hp : tmps.getD 2 undef = .pointer (some ⟨Y, 0, none⟩)) (he : tmps.getD 3 undef = e)
    (hY : w.heap[Y]? = some (.cells cs 59 (0, 0))) (hs : cs.size = 5) : (results fn tmps).run Tryz.prog w = .ok (.tuple #[.agg cs, e]) w := by
  rw [results_cell_tmp h, hp, he]
  simp [asAddr, run_loadVar_row w Y 59 59 cs (0, 0) _ hY Tryz.underlying59 rfl (by rw [hs]; kernel_rfl)]
theorem five_of {w : World} {B T : Nat} {a b c d e : Value} (h : w.heap[B]? = some (.cells #[a, b, c, d, e] T (0, 0))) :
    w.cell? ⟨B, 0, none⟩ = some a ∧ w.cell? ⟨B, 1, none⟩ = some b ∧ w.cell? ⟨B, 2, none⟩ = some c ∧ w.cell? ⟨B, 3, none⟩ = some d ∧ w.cell? ⟨B, 4, none⟩ = some e ∧ ∀ i, w.frozen? ⟨B, i, none⟩ = false :=
  ⟨by simp [World.cell?, h], by simp [World.cell?, h], by simp [World.cell?, h], by simp [World.cell?, h], by simp [World.cell?, h], fun i => by simp [World.frozen?, h]⟩
/-- the two rows of an outcome: own, and apart -/
structure Rows2 (w : World) (base : Nat) (cv pv : Value) (c p : List ByteArray) : Prop where
  c : w.ownsRow base 9 1 cv c.length (Im.strs c)
  p : w.ownsRow base 9 1 pv p.length (Im.strs p)
  apart : ∀ g, cv.ownBlock = some g → pv.ownBlock ≠ some g
theorem infoStr : (Tryz.prog.info? 9).map (fun i => (i.zero, i.size, i.bytes)) = some (some (.string ⟨#[]⟩), 1, 16) := by kernel_rfl
/-- one text more in a row -/
theorem rows2_add {wr W w7 w8 : World} {base O n g cap H : Nat} {cv pv : Value} {c p : List ByteArray} {t : ByteArray} (h : Rows2 wr base cv pv c p) (hW : wr.grownBy W none) (hH : W.heap.size = H)
    (hown : w7.ownsRow base 9 1 (.slice (some ⟨g, 0, none⟩) n cap) n (Im.strs c ++ [.string t])) (hn : n = c.length + 1) (hgrow : W.grownBy w7 cv.ownBlock) (hat : cv.ownBlock = some g ∨ g = H)
    (hO : O < base) (h8 : w7.grownBy w8 (some O)) : Rows2 w8 base (.slice (some ⟨g, 0, none⟩) n cap) pv (c ++ [t]) p := by
  have hpb : ∀ k, pv.ownBlock = some k → base ≤ k ∧ k < wr.heap.size := fun k e => h.p.lt k e
  have hg : base ≤ g := (hown.lt g rfl).1
  refine ⟨?_, ?_, ?_⟩
  · rw [List.length_append, strs_app]
    subst hn
    exact rown_grown hown h8 (fun k e e2 => by simp only [Value.ownBlock] at e; injection e with e; injection e2 with e2; omega)
  · refine rown_grown (rown_grown (rown_grown h.p hW (fun _ _ => by simp)) hgrow (fun k e e2 => ?_)) h8 (fun k e e2 => by have := hpb k e; injection e2 with e2; omega)
    exact h.apart k e2.symm e
  · intro k e
    simp only [Value.ownBlock] at e
    injection e with e
    subst e
    intro e3
    rcases hat with h1 | h1
    · exact h.apart _ h1 e3
    · have := hpb _ e3; have := hW.size; omega
theorem Rows2.swap {w : World} {base : Nat} {cv pv : Value} {c p : List ByteArray} (h : Rows2 w base cv pv c p) : Rows2 w base pv cv p c := ⟨h.p, h.c, fun g e1 e2 => h.apart g e2 e1⟩
end Go.Proofs.YtkfnedhllfdghaaGreatDoor
end

section
namespace Go.Proofs.YtkfnedhllfdghaaGreatDoor.RN
open Go.RowKit Go.Shelf
set_option maxRecDepth 20000

theorem hide {p : Prop} (h : p) : Hid p := h
/-- an event of a runner's machine -/
structure Ev where
  k : Int
  n : Int
  l : Int
  jo : Int
  ba : Int
  ix : Int
  co : Int
  rc : Int
  rb : Nat
  tx : ByteArray
def Ev.cs (d : Ev) : List Value := [.int .i64 d.k, .int .i64 0, .int .i64 d.n, .int .i64 d.l, .int .i64 d.jo, .int .i64 d.ba, .int .i64 d.ix, .int .i64 d.co, .int .i64 0, .int .i64 d.rc, .int .u64 (d.rb : Int), .string d.tx, .slice none 0 0]
theorem Ev.one (d : Ev) : ∀ u ∈ d.cs, u.oneCell' = true := by
  have : d.cs.all (fun u => u.oneCell') = true := rfl
  exact fun u hu => List.all_eq_true.1 this u hu
def ecs : List Ev → List Value
  | [] => []
  | d :: l => d.cs ++ ecs l
theorem ecs_app (l m : List Ev) : ecs (l ++ m) = ecs l ++ ecs m := by
  induction l with
  | nil => rfl
  | cons x l ih => simp only [List.cons_append, ecs, ih, List.append_assoc]
theorem ecs_one (l : List Ev) : ∀ u ∈ ecs l, u.oneCell' = true := by
  induction l with
  | nil => intro u hu; cases hu
  | cons x l ih =>
    intro u hu
    rcases List.mem_append.1 hu with h | h
    · exact x.one u h
    · exact ih u h
theorem ecs_len (l : List Ev) : (ecs l).length = l.length * 13 := by
  induction l with
  | nil => rfl
  | cons x l ih => simp only [ecs, List.length_append, ih, List.length_cons]; show 13 + _ = _; omega
theorem ecs_get (l : List Ev) (i k : Nat) (hi : i < l.length) (hk : k < 13) : (ecs l)[i * 13 + k]? = (l[i]).cs[k]? := by
  induction l generalizing i with
  | nil => exact absurd hi (Nat.not_lt_zero _)
  | cons d l ih =>
    cases i with
    | zero => simp only [ecs]; rw [Nat.zero_mul, Nat.zero_add, List.getElem?_append_left (by show k < 13; exact hk)]; rfl
    | succ i =>
      simp only [ecs]
      rw [List.getElem?_append_right (by show 13 ≤ _; omega)]
      have e : (i + 1) * 13 + k - d.cs.length = i * 13 + k := by show (i + 1) * 13 + k - 13 = _; omega
      rw [e]
      exact ih i (by simpa using hi)
/-- whose it is -/
def Ev.of (d : Ev) (n l jo ba : Int) : Ev := { d with n := n, l := l, jo := jo, ba := ba }
def ev (k ix co rc : Int) (rb : Nat) (tx : ByteArray) : Ev := ⟨k, 0, 0, 0, 0, ix, co, rc, rb, tx⟩
/-- a job: its program, its machine, its number and badge, its two senders -/
structure Jb where
  xs : List In
  fu : Nat
  m : Mc
  no : Int
  ba : Int
  lg : CH.Sn
  ar : CH.Sn
structure Jb.ok (j : Jb) : Prop where
  p : Pok j.fu j.xs
  m : j.m.Ok j.xs.length j.fu
  lg : j.lg.ok
  ar : j.ar.ok
def Jb.goes (j : Jb) : Bool := !j.m.ov && (decide (j.lg.R.length < j.lg.wd) && decide (j.ar.R.length < j.ar.wd))
def Jb.mv (j : Jb) : Mc := (Im.stp j.xs j.fu j.m).1
def Jb.ak (j : Jb) : Nat := (Im.stp j.xs j.fu j.m).2.1
def Jb.tx (j : Jb) : ByteArray := (Im.stp j.xs j.fu j.m).2.2
def Jb.lg' (j : Jb) : CH.Sn := if j.ak = 1 then j.lg.put j.tx else j.lg
def Jb.ar' (j : Jb) : CH.Sn := if j.ak = 2 then j.ar.put j.tx else j.ar
/-- behind an instruction -/
def Jb.nx (j : Jb) : Jb := { j with m := j.mv, lg := j.lg', ar := j.ar' }
/-- what an instruction tells -/
def Jb.e1 (j : Jb) : List Ev := if j.ak = 1 then [ev 10 (j.lg.len : Int) 0 0 0 j.tx] else if j.ak = 2 then [ev 11 (j.ar.len : Int) 0 0 0 j.tx] else []
def Jb.e2 (j : Jb) : List Ev := if j.mv.ov = true then [ev 12 0 (j.lg'.len : Int) (Im.resC j.mv : Int) (Im.resB j.mv) ByteArray.empty] else []
def Jb.es (j : Jb) : List Ev := j.e1 ++ j.e2
theorem Jb.es_len (j : Jb) : j.es.length ≤ 2 := by
  unfold Jb.es Jb.e1 Jb.e2
  rw [List.length_append]
  split <;> split <;> (try split) <;> simp
theorem Jb.goes_ov {j : Jb} (h : j.goes = true) : j.m.ov = false := by
  unfold Jb.goes at h
  cases ho : j.m.ov with
  | false => rfl
  | true => rw [ho] at h; cases h
theorem Jb.nx_ok {j : Jb} (h : j.ok) (hg : j.m.ov = false) : j.nx.ok := by
  refine ⟨h.p, stp_ok h.m hg h.p.good, ?_, ?_⟩
  · show j.lg'.ok
    unfold Jb.lg'
    split
    · exact CH.Sn.put_ok h.lg _
    · exact h.lg
  · show j.ar'.ok
    unfold Jb.ar'
    split
    · exact CH.Sn.put_ok h.ar _
    · exact h.ar
/-- a job and what it told, n instructions on -/
def reck (who : Ev → Ev) : Nat → Jb → List Ev → Jb × List Ev
  | 0, j, T => (j, T)
  | n + 1, j, T => if j.goes = true then reck who n j.nx (T ++ j.es.map who) else (j, T)
theorem reck_ok (who : Ev → Ev) : ∀ n j T, j.ok → (reck who n j T).1.ok
  | 0, _, _, h => h
  | n + 1, j, T, h => by
    unfold reck
    split
    · rename_i hg
      exact reck_ok who n _ _ (Jb.nx_ok h (Jb.goes_ov hg))
    · exact h
theorem reck_len (who : Ev → Ev) : ∀ n j T, (reck who n j T).2.length ≤ T.length + 2 * n
  | 0, _, _ => Nat.le_refl _
  | n + 1, j, T => by
    unfold reck
    split
    · refine Nat.le_trans (reck_len who n _ _) ?_
      rw [List.length_append, List.length_map]
      have := j.es_len
      omega
    · exact Nat.le_add_right _ _
/-- a runner -/
structure Rn where
  sl : Nat
  li : Nat
  wd : Nat
  rs : Nat
  qu : Nat
  c : SE.Cl
  j : Option Jb
  T : List Ev
structure Rn.ok (r : Rn) : Prop where
  s8 : r.sl < 8
  l1 : r.li ≤ 1099511627776
  w1 : 1 ≤ r.wd
  w8 : r.wd ≤ 8
  r1 : 1 ≤ r.rs
  r2 : r.rs ≤ 16
  q1 : 1 ≤ r.qu
  q2 : r.qu ≤ 64
  c : r.c.ok
  cb : r.c.m.rb < 18446744073709551616
  j : ∀ j, r.j = some j → j.ok
def Rn.who (r : Rn) (j : Jb) (d : Ev) : Ev := d.of (2 + (r.sl : Int)) (r.li : Int) j.no j.ba

/-! memory -/
/-- code that is read: a row of instructions -/
def Cx (w : World) (v : Value) (xs : List In) : Prop := ∃ b off cap cur, v = .slice (some ⟨b, off, none⟩) xs.length cap ∧ w.heap[b]? = some (.cells cur 189 (0, 0)) ∧ ∀ j, j < xs.length → ∀ i u, (xs[j]!).cs[i]? = some u → w.cell? ⟨b, off + j * 6 + i, none⟩ = some u
def cxB : Value → Nat
  | .slice (some a) _ _ => a.block
  | _ => 0
theorem Cx.keep {w w' : World} {v : Value} {xs : List In} (h : Cx w v xs) (hk : w'.heap[cxB v]? = w.heap[cxB v]?) : Cx w' v xs := by
  obtain ⟨b, off, cap, cur, rfl, hb, hc⟩ := h
  exact ⟨b, off, cap, cur, rfl, hk.trans hb, fun j hj i u hu => (World.cell?_of_block (a := ⟨b, off + j * 6 + i, none⟩) hk).trans (hc j hj i u hu)⟩
theorem Cx.typ {w : World} {v : Value} {xs : List In} (h : Cx w v xs) : ∃ cur, w.heap[cxB v]? = some (.cells cur 189 (0, 0)) := by
  obtain ⟨b, off, cap, cur, rfl, hb, hc⟩ := h
  exact ⟨cur, hb⟩
theorem Cx.cdn {w : World} {v : Value} {xs : List In} {B fuel : Nat} {m : Mc} {u : Value} (h : Cx w v xs) (hm : Mb w B m u fuel) : Cdn w v xs B := by
  obtain ⟨b, off, cap, cur, rfl, hb, hc⟩ := h
  exact ⟨b, off, cap, rfl, lt_of_block hb, CH.blk_ne hb hm.blk (by decide), hc⟩
/-- where a job lies -/
structure JA where
  J : Nat
  M : Nat
  L : Nat
  A : Nat
  v : Value
  d1 : Option Addr
  c1 : Nat
  X1 : Nat
  o1 : Nat
  d2 : Option Addr
  c2 : Nat
  X2 : Nat
  o2 : Nat
def jcs (a : JA) (j : Jb) : Array Value := #[.pointer (some ⟨a.M, 0, none⟩), .int .i64 j.no, .int .i64 j.ba, .pointer (some ⟨a.L, 0, none⟩), .pointer (some ⟨a.A, 0, none⟩)]
structure Jm (w : World) (a : JA) (j : Jb) : Prop where
  jb : w.heap[a.J]? = some (.cells (jcs a j) 126 (0, 0))
  mb : Mb w a.M j.m a.v j.fu
  cd : Cx w a.v j.xs
  lg : CH.Sb w a.L j.lg a.d1 a.c1 a.X1 a.o1
  ar : CH.Sb w a.A j.ar a.d2 a.c2 a.X2 a.o2
  la : a.L ≠ a.A
  xx : 0 < a.c1 → 0 < a.c2 → a.X1 ≠ a.X2
/-- cells that a job's calls may turn -/
def JA.g (a : JA) (j : Jb) (b i : Nat) : Prop := b = a.M ∨ b = a.L ∨ b = a.A ∨ (b = a.X1 ∧ a.o1 + j.lg.R.length ≤ i ∧ i < a.o1 + a.c1) ∨ (b = a.X2 ∧ a.o2 + j.ar.R.length ≤ i ∧ i < a.o2 + a.c2)
/-- cells that a job leans on -/
def JA.d (a : JA) (b i : Nat) : Prop := b = a.J ∨ b = a.M ∨ b = a.L ∨ b = a.A ∨ b = cxB a.v ∨ (b = a.X1 ∧ a.o1 ≤ i ∧ i < a.o1 + a.c1) ∨ (b = a.X2 ∧ a.o2 ≤ i ∧ i < a.o2 + a.c2)
theorem JA.g_d {a : JA} {j : Jb} {b i : Nat} (h : a.g j b i) : a.d b i := by
  rcases h with h | h | h | ⟨h, h1, h2⟩ | ⟨h, h1, h2⟩
  · exact .inr (.inl h)
  · exact .inr (.inr (.inl h))
  · exact .inr (.inr (.inr (.inl h)))
  · exact .inr (.inr (.inr (.inr (.inr (.inl ⟨h, by omega, h2⟩)))))
  · exact .inr (.inr (.inr (.inr (.inr (.inr ⟨h, by omega, h2⟩)))))
/-- of what there was only the cells of G were turned -/
structure Kp (G : Nat → Nat → Prop) (w w' : World) : Prop where
  os : w'.os = w.os
  tape : w'.tape = w.tape
  output : w'.output = w.output
  size : w.heap.size ≤ w'.heap.size
  block : ∀ j, j < w.heap.size → (∀ i, ¬ G j i) → w'.heap[j]? = w.heap[j]?
  cell : ∀ j, j < w.heap.size → ∀ i, ¬ G j i → w'.cell? ⟨j, i, none⟩ = w.cell? ⟨j, i, none⟩
  shape : ∀ (j : Nat) (cur : Array Value), w.heap[j]? = some (.cells cur 9 (0, 0)) → ∃ cur' : Array Value, w'.heap[j]? = some (.cells cur' 9 (0, 0)) ∧ cur'.size = cur.size
theorem Kp.of_below {G : Nat → Nat → Prop} {w w' : World} (h : Below w.heap.size w w') : Kp G w w' :=
  ⟨h.os, h.tape, h.output, h.size, fun j hj _ => h.block j hj, fun j hj _ _ => World.cell?_of_block (h.block j hj), fun j cur hc => ⟨cur, (h.block j (lt_of_block hc)).trans hc, rfl⟩⟩
theorem Kp.refl (G : Nat → Nat → Prop) (w : World) : Kp G w w := Kp.of_below (Below.refl _ w)
theorem Kp.trans {G G' : Nat → Nat → Prop} {u v w : World} (h : Kp G u v) (k : Kp G' v w) (hg : ∀ b i, G' b i → G b i ∨ u.heap.size ≤ b) : Kp G u w :=
  ⟨k.os.trans h.os, k.tape.trans h.tape, k.output.trans h.output, Nat.le_trans h.size k.size,
    fun j hj hn => (k.block j (Nat.lt_of_lt_of_le hj h.size) (fun i hi => (hg j i hi).elim (hn i) (fun h9 => absurd hj (Nat.not_lt.2 h9)))).trans (h.block j hj hn),
    fun j hj i hn => (k.cell j (Nat.lt_of_lt_of_le hj h.size) i (fun hi => (hg j i hi).elim hn (fun h9 => absurd hj (Nat.not_lt.2 h9)))).trans (h.cell j hj i hn),
    fun j cur hc => by obtain ⟨c1, h1, e1⟩ := h.shape j cur hc; obtain ⟨c2, h2, e2⟩ := k.shape j c1 h1; exact ⟨c2, h2, e2.trans e1⟩⟩
theorem Kp.mono {G G' : Nat → Nat → Prop} {u v : World} (h : Kp G u v) (hg : ∀ b i, G b i → G' b i ∨ u.heap.size ≤ b) : Kp G' u v := (Kp.refl G' u).trans h hg
theorem Kp.low {G : Nat → Nat → Prop} {u v w : World} (h : Kp G u v) (k : Below v.heap.size v w) : Kp G u w := h.trans (G' := fun _ _ => False) (Kp.of_below k) (fun _ _ h => h.elim)
theorem Kp.pre {G : Nat → Nat → Prop} {u v w : World} (k : Below u.heap.size u v) (h : Kp G v w) : Kp G u w := (Kp.of_below k).trans h (fun _ _ h => .inl h)
/-- one block that is no row of texts -/
theorem Kp.of_on {G : Nat → Nat → Prop} {b : Nat} {w w' : World} {cs : Array Value} {t : TypeId} (h : CH.On b w w') (hb : w.heap[b]? = some (.cells cs t (0, 0))) (ht : t ≠ 9) (hG : ∀ i, G b i) : Kp G w w' :=
  ⟨h.os, h.tape, h.output, h.size, fun j hj hn => h.block j hj (fun e => hn 0 (e ▸ hG 0)), fun j hj i hn => World.cell?_of_block (h.block j hj (fun e => hn (e ▸ hG i))),
    fun j cur hc => ⟨cur, (h.block j (lt_of_block hc) (CH.blk_ne hc hb (fun e => ht e.symm))).trans hc, rfl⟩⟩
theorem Kp.of_onE {G : Nat → Nat → Prop} {b : Nat} {w w' : World} {cs : Array Value} {t : TypeId} (h : SE.On b w w') (hb : w.heap[b]? = some (.cells cs t (0, 0))) (ht : t ≠ 9) (hG : ∀ i, G b i) : Kp G w w' :=
  Kp.of_on ⟨h.os, h.tape, h.output, h.size, h.block⟩ hb ht hG
theorem Kp.of_grown {G : Nat → Nat → Prop} {b : Nat} {w w' : World} {cs : Array Value} {t : TypeId} (h : w.grownBy w' (some b)) (hb : w.heap[b]? = some (.cells cs t (0, 0))) (ht : t ≠ 9) (hG : ∀ i, G b i) : Kp G w w' :=
  Kp.of_on ⟨h.os, h.tape, h.output, h.size, fun k hk hn => h.block k hk (by simpa using hn)⟩ hb ht hG
theorem Kp.of_pt {G : Nat → Nat → Prop} {b X k : Nat} {w w' : World} {cs : Array Value} {t : TypeId} (h : CH.Pt b X k w w') (hb : w.heap[b]? = some (.cells cs t (0, 0))) (ht : t ≠ 9) (hG : ∀ i, G b i) (hX : G X k) : Kp G w w' :=
  ⟨h.os, h.tape, h.output, h.size, fun j hj hn => h.block j hj (fun e => hn 0 (e ▸ hG 0)) (fun e => hn k (e ▸ hX)),
    fun j hj i hn => by
      by_cases e : j = X
      · subst e
        exact h.cell i (fun e => hn (e ▸ hX))
      · exact World.cell?_of_block (h.block j hj (fun e => hn (e ▸ hG i)) e),
    fun j cur hc => by
      by_cases e : j = X
      · subst e
        exact h.shape cur _ hc
      · exact ⟨cur, (h.block j (lt_of_block hc) (CH.blk_ne hc hb (fun e => ht e.symm)) e).trans hc, rfl⟩⟩
theorem Rs_kp {G : Nat → Nat → Prop} {w w' : World} {ad : Option Addr} {cap X o : Nat} {R : List ByteArray} (h : CH.Rs w ad cap X o R) (k : Kp G w w') (hn : ∀ i, o ≤ i → i < o + R.length → ¬ G X i) : CH.Rs w' ad cap X o R :=
  ⟨h.le, h.at_, fun h0 => by
      obtain ⟨cur, hc, hs⟩ := h.blk h0
      obtain ⟨c1, h1, e1⟩ := k.shape X cur hc
      exact ⟨c1, h1, by omega⟩,
    fun i hi => (k.cell X (h.lt (by have := h.le; omega)) (o + i) (hn (o + i) (by omega) (by omega))).trans (h.c i hi)⟩
theorem Sb_kp {G : Nat → Nat → Prop} {w w' : World} {b : Nat} {s : CH.Sn} {ad : Option Addr} {cap X o : Nat} (h : CH.Sb w b s ad cap X o) (k : Kp G w w') (hb : ∀ i, ¬ G b i) (hn : ∀ i, o ≤ i → i < o + s.R.length → ¬ G X i) : CH.Sb w' b s ad cap X o :=
  ⟨(k.block b h.lt hb).trans h.cb, Rs_kp h.rs k hn⟩
theorem Mb_kp {G : Nat → Nat → Prop} {w w' : World} {B fuel : Nat} {m : Mc} {v : Value} (h : Mb w B m v fuel) (k : Kp G w w') (hb : ∀ i, ¬ G B i) : Mb w' B m v fuel := ⟨(k.block B h.lt hb).trans h.blk, h.l8⟩
/-- a job that lies apart from what was turned -/
theorem Jm.kp {G : Nat → Nat → Prop} {w w' : World} {a : JA} {j : Jb} (h : Jm w a j) (k : Kp G w w') (hn : ∀ b i, a.d b i → ¬ G b i) : Jm w' a j :=
  ⟨(k.block _ (lt_of_block h.jb) (fun i => hn _ i (.inl rfl))).trans h.jb, Mb_kp h.mb k (fun i => hn _ i (.inr (.inl rfl))), h.cd.keep (by
      obtain ⟨cur, hc⟩ := h.cd.typ
      exact k.block _ (lt_of_block hc) (fun i => hn _ i (.inr (.inr (.inr (.inr (.inl rfl))))))),
    Sb_kp h.lg k (fun i => hn _ i (.inr (.inr (.inl rfl)))) (fun i h1 h2 => hn _ i (.inr (.inr (.inr (.inr (.inr (.inl ⟨rfl, h1, by have := h.lg.rs.le; omega⟩))))))),
    Sb_kp h.ar k (fun i => hn _ i (.inr (.inr (.inr (.inl rfl))))) (fun i h1 h2 => hn _ i (.inr (.inr (.inr (.inr (.inr (.inr ⟨rfl, h1, by have := h.ar.rs.le; omega⟩))))))),
    h.la, h.xx⟩
theorem Jm.below {w w' : World} {a : JA} {j : Jb} (h : Jm w a j) (k : Below w.heap.size w w') : Jm w' a j := h.kp (G := fun _ _ => False) (Kp.of_below k) (fun _ _ _ h => h)
theorem Jm.lt {w : World} {a : JA} {j : Jb} (h : Jm w a j) {b i : Nat} (hd : a.d b i) : b < w.heap.size := by
  rcases hd with e | e | e | e | e | ⟨e, h1, h2⟩ | ⟨e, h1, h2⟩
  · exact e ▸ lt_of_block h.jb
  · exact e ▸ h.mb.lt
  · exact e ▸ h.lg.lt
  · exact e ▸ h.ar.lt
  · obtain ⟨cur, hc⟩ := h.cd.typ
    exact e ▸ lt_of_block hc
  · exact e ▸ h.lg.rs.lt (by omega)
  · exact e ▸ h.ar.rs.lt (by omega)
/-- a call of a job's: how it stands behind it -/
structure Js (w : World) (a : JA) (j : Jb) (w' : World) (a' : JA) (j' : Jb) : Prop where
  jm : Jm w' a' j'
  J : a'.J = a.J
  M : a'.M = a.M
  L : a'.L = a.L
  A : a'.A = a.A
  kp : Kp (a.g j) w w'
  g : ∀ b i, a'.g j' b i → a.g j b i ∨ w.heap.size ≤ b
  d : ∀ b i, a'.d b i → a.d b i ∨ w.heap.size ≤ b
theorem Js.refl {w : World} {a : JA} {j : Jb} (h : Jm w a j) : Js w a j w a j := ⟨h, rfl, rfl, rfl, rfl, Kp.refl _ _, fun _ _ h => .inl h, fun _ _ h => .inl h⟩
theorem Js.trans {u v w : World} {a b c : JA} {i j k : Jb} (h : Js u a i v b j) (h' : Js v b j w c k) : Js u a i w c k :=
  ⟨h'.jm, h'.J.trans h.J, h'.M.trans h.M, h'.L.trans h.L, h'.A.trans h.A, h.kp.trans h'.kp h.g, fun x y hx => (h'.g x y hx).elim (h.g x y) (fun h9 => .inr (Nat.le_trans h.kp.size h9)), fun x y hx => (h'.d x y hx).elim (h.d x y) (fun h9 => .inr (Nat.le_trans h.kp.size h9))⟩
theorem Js.low {u v w : World} {a b : JA} {i j : Jb} (h : Js u a i v b j) (k : Below v.heap.size v w) : Js u a i w b j :=
  ⟨h.jm.below k, h.J, h.M, h.L, h.A, h.kp.low k, h.g, h.d⟩
theorem Js.pre {u v w : World} {a b : JA} {i j : Jb} (k : Below u.heap.size u v) (h : Js v a i w b j) : Js u a i w b j :=
  ⟨h.jm, h.J, h.M, h.L, h.A, h.kp.pre k, fun x y hx => (h.g x y hx).imp_right (Nat.le_trans k.size), fun x y hx => (h.d x y hx).imp_right (Nat.le_trans k.size)⟩
end Go.Proofs.YtkfnedhllfdghaaGreatDoor.RN
end

section
namespace Go.Proofs.YtkfnedhllfdghaaGreatDoor.RN
open Go.RowKit Go.Shelf
set_option maxRecDepth 20000

theorem Jm.x1 {w : World} {a : JA} {j : Jb} (h : Jm w a j) (h0 : 0 < a.c1) : ∃ cur, w.heap[a.X1]? = some (.cells cur 9 (0, 0)) := by obtain ⟨cur, hc, _⟩ := h.lg.rs.blk h0; exact ⟨cur, hc⟩
theorem Jm.x2 {w : World} {a : JA} {j : Jb} (h : Jm w a j) (h0 : 0 < a.c2) : ∃ cur, w.heap[a.X2]? = some (.cells cur 9 (0, 0)) := by obtain ⟨cur, hc, _⟩ := h.ar.rs.blk h0; exact ⟨cur, hc⟩
/-- the machine alone has moved -/
theorem Jm.mach {w w' : World} {a : JA} {j : Jb} {m : Mc} (h : Jm w a j) (hg : w.grownBy w' (some a.M)) (hm : Mb w' a.M m a.v j.fu) : Js w a j w' a { j with m := m } := by
  have hk : ∀ {G : Nat → Nat → Prop}, (∀ i, G a.M i) → Kp G w w' := fun hG => Kp.of_grown hg h.mb.blk (by decide) hG
  have hb : ∀ {b : Nat} {cs : Array Value} {t : TypeId}, w.heap[b]? = some (.cells cs t (0, 0)) → t ≠ 204 → w'.heap[b]? = w.heap[b]? := fun hc ht => hg.block _ (lt_of_block hc) (by simpa using CH.blk_ne hc h.mb.blk ht)
  refine ⟨⟨(hb h.jb (by decide)).trans h.jb, hm, h.cd.keep ?_, ⟨(hb h.lg.cb (by decide)).trans h.lg.cb, h.lg.rs.keep fun h0 => ?_⟩, ⟨(hb h.ar.cb (by decide)).trans h.ar.cb, h.ar.rs.keep fun h0 => ?_⟩, h.la, h.xx⟩, rfl, rfl, rfl, rfl, hk (fun i => .inl rfl), fun _ _ h => .inl h, fun _ _ h => .inl h⟩
  · obtain ⟨cur, hc⟩ := h.cd.typ
    exact hb hc (by decide)
  · obtain ⟨cur, hc⟩ := h.x1 h0
    exact hb hc (by decide)
  · obtain ⟨cur, hc⟩ := h.x2 h0
    exact hb hc (by decide)
/-- cells that a call of this sender may turn -/
def JA.g1 (a : JA) (j : Jb) (b i : Nat) : Prop := b = a.L ∨ (b = a.X1 ∧ a.o1 + j.lg.R.length ≤ i ∧ i < a.o1 + a.c1)
theorem JA.g1_g {a : JA} {j : Jb} {b i : Nat} (h : a.g1 j b i) : a.g j b i := by
  rcases h with h | h
  · exact .inr (.inl h)
  · exact .inr (.inr (.inr (.inl h)))
/-- one of the senders has moved -/
theorem Jm.s1 {w w' : World} {a : JA} {j : Jb} {s : CH.Sn} {d : Option Addr} {c X o : Nat} (h : Jm w a j) (k : Kp (a.g1 j) w w') (hs : CH.Sb w' a.L s d c X o)
    (hx : 0 < c → w.heap.size ≤ X ∨ (X = a.X1 ∧ a.o1 ≤ o ∧ o + c ≤ a.o1 + a.c1 ∧ (a.o1 + j.lg.R.length ≤ o + s.R.length ∨ s.R.length = c))) :
    Js w a j w' { a with d1 := d, c1 := c, X1 := X, o1 := o } { j with lg := s } := by
  have hb : ∀ {b : Nat} {cs : Array Value} {t : TypeId}, w.heap[b]? = some (.cells cs t (0, 0)) → t ≠ 170 → t ≠ 9 → w'.heap[b]? = w.heap[b]? := fun hc h1 h2 => k.block _ (lt_of_block hc) (fun i hi => by
    rcases hi with e | ⟨e, h3, h4⟩
    · exact CH.blk_ne hc h.lg.cb h1 e
    · obtain ⟨cur, hX⟩ := h.x1 (by have := h.lg.rs.le; omega)
      exact CH.blk_ne hc hX h2 e)
  have hA : w'.heap[a.A]? = w.heap[a.A]? := k.block _ h.ar.lt (fun i hi => by
    rcases hi with e | ⟨e, h3, h4⟩
    · exact h.la e.symm
    · obtain ⟨cur, hX⟩ := h.x1 (by have := h.lg.rs.le; omega)
      exact CH.blk_ne h.ar.cb hX (by decide) e)
  have hR : CH.Rs w' a.d2 a.c2 a.X2 a.o2 j.ar.R := Rs_kp h.ar.rs k (fun i h1 h2 hi => by
    have hl := h.ar.rs.le
    obtain ⟨cur, hX⟩ := h.x2 (by omega)
    rcases hi with e | ⟨e, h3, h4⟩
    · exact CH.blk_ne hX h.lg.cb (by decide) e
    · have hl := h.lg.rs.le
      exact h.xx (by omega) (by omega) e.symm)
  refine ⟨⟨(hb h.jb (by decide) (by decide)).trans h.jb, ⟨(hb h.mb.blk (by decide) (by decide)).trans h.mb.blk, h.mb.l8⟩, h.cd.keep ?_, hs, ⟨hA.trans h.ar.cb, hR⟩, h.la, ?_⟩, rfl, rfl, rfl, rfl, k.mono (fun b i h => .inl (JA.g1_g h)), ?_, ?_⟩
  · obtain ⟨cur, hc⟩ := h.cd.typ
    exact hb hc (by decide) (by decide)
  · intro h1 h2 e
    replace h1 : 0 < c := h1
    replace h2 : 0 < a.c2 := h2
    replace e : X = a.X2 := e
    rcases hx h1 with h9 | ⟨e1, h3, h4, _⟩
    · have := h.ar.rs.lt h2
      omega
    · exact h.xx (by omega) h2 (e1 ▸ e)
  · rintro b i hbi
    have hbi : b = a.M ∨ b = a.L ∨ b = a.A ∨ (b = X ∧ o + s.R.length ≤ i ∧ i < o + c) ∨ (b = a.X2 ∧ a.o2 + j.ar.R.length ≤ i ∧ i < a.o2 + a.c2) := hbi
    rcases hbi with e | e | e | h9 | h9
    · exact .inl (.inl e)
    · exact .inl (.inr (.inl e))
    · exact .inl (.inr (.inr (.inl e)))
    · obtain ⟨e, h3, h4⟩ := h9
      rcases hx (by omega) with h5 | ⟨e1, h5, h6, h7⟩
      · exact .inr (e ▸ h5)
      · exact .inl (.inr (.inr (.inr (.inl ⟨e.trans e1, by omega, by omega⟩))))
    · exact .inl (.inr (.inr (.inr (.inr h9))))
  · rintro b i hbi
    have hbi : b = a.J ∨ b = a.M ∨ b = a.L ∨ b = a.A ∨ b = cxB a.v ∨ (b = X ∧ o ≤ i ∧ i < o + c) ∨ (b = a.X2 ∧ a.o2 ≤ i ∧ i < a.o2 + a.c2) := hbi
    rcases hbi with e | e | e | e | e | h9 | h9
    · exact .inl (.inl e)
    · exact .inl (.inr (.inl e))
    · exact .inl (.inr (.inr (.inl e)))
    · exact .inl (.inr (.inr (.inr (.inl e))))
    · exact .inl (.inr (.inr (.inr (.inr (.inl e)))))
    · obtain ⟨e, h3, h4⟩ := h9
      rcases hx (by omega) with h5 | ⟨e1, h5, h6, h7⟩
      · exact .inr (e ▸ h5)
      · exact .inl (.inr (.inr (.inr (.inr (.inr (.inl ⟨e.trans e1, by omega, by omega⟩))))))
    · exact .inl (.inr (.inr (.inr (.inr (.inr (.inr h9))))))
/-- a call that leaves its texts where they are -/
theorem Jm.on1 {w w' : World} {a : JA} {j : Jb} {s : CH.Sn} (h : Jm w a j) (ho : CH.On a.L w w') (hs : CH.Sb w' a.L s a.d1 a.c1 a.X1 a.o1) (hl : s.R.length = j.lg.R.length) : Js w a j w' a { j with lg := s } :=
  h.s1 (Kp.of_on ho h.lg.cb (by decide) (fun i => .inl rfl)) hs (fun _ => .inr ⟨rfl, Nat.le_refl _, Nat.le_refl _, .inl (by rw [hl]; exact Nat.le_refl _)⟩)
theorem jput1 {w : World} {a : JA} {j : Jb} (h : Jm w a j) (hk : j.lg.ok) (t : ByteArray) :
    Calls Tryz.prog 126 #[.pointer (some ⟨a.L, 0, none⟩), .string t] w fun e w' => e = .returned (.int .i64 (j.lg.putE t)) ∧ ∃ a', Js w a j w' a' { j with lg := j.lg.put t } := by
  refine (CH.sput_any hk h.lg t).mono ?_
  rintro e w' ⟨rfl, hp⟩
  refine ⟨rfl, ?_⟩
  rcases hp with ⟨h1, m, rfl⟩ | ⟨h1, ad, cap, X, o, hs, hf⟩
  · have e1 : j.lg.put t = j.lg := if_neg h1
    rw [e1]
    exact ⟨a, (Js.refl h).low ⟨rfl, rfl, rfl, Nat.le_refl _, fun _ _ => rfl⟩⟩
  · have e1 : j.lg.put t = j.lg.add t := if_pos h1
    rw [e1]
    have hle := h.lg.rs.le
    have e2 : (j.lg.add t).R.length = j.lg.R.length + 1 := by show (j.lg.R ++ [t]).length = _; simp
    rcases hf with ⟨h2, r1, r2, r3, r4, hp⟩ | ⟨h2, ho⟩
    · subst r1; subst r2; subst r3; subst r4
      exact ⟨_, h.s1 (Kp.of_pt hp h.lg.cb (by decide) (fun i => .inl rfl) (.inr ⟨rfl, Nat.le_refl _, by omega⟩)) hs (fun _ => .inr ⟨rfl, Nat.le_refl _, Nat.le_refl _, .inl (by omega)⟩)⟩
    · exact ⟨_, h.s1 (Kp.of_on ho h.lg.cb (by decide) (fun i => .inl rfl)) hs (fun _ => .inl h2)⟩
theorem jtick1 {w : World} {a : JA} {j : Jb} (h : Jm w a j) (hk : j.lg.ok) :
    Calls Tryz.prog 56 #[.pointer (some ⟨a.L, 0, none⟩)] w fun e w' => e = .returned (.tuple #[]) ∧ Js w a j w' a { j with lg := j.lg.tick } := by
  refine (CH.tick_any hk h.lg).mono ?_
  rintro e w' ⟨rfl, hs, ho⟩
  exact ⟨rfl, h.on1 ho hs rfl⟩
theorem jdue1 {w : World} {a : JA} {j : Jb} (h : Jm w a j) (hk : j.lg.ok) :
    Calls Tryz.prog 89 #[.pointer (some ⟨a.L, 0, none⟩)] w fun e w' => ∃ v, e = .returned v ∧ w'.ownsRow w.heap.size 159 2 v j.lg.its.length (CH.ics j.lg.its) ∧ Js w a j w' a { j with lg := j.lg.due } := by
  refine (CH.due_any hk h.lg).mono ?_
  rintro e w' ⟨v, rfl, hv, hs, ho⟩
  exact ⟨v, rfl, hv, h.on1 ho hs (by unfold CH.Sn.due; split <;> rfl)⟩
theorem jack1 {w : World} {a : JA} {j : Jb} (h : Jm w a j) (hk : j.lg.ok) (k : Int) (hk6 : -9223372036854775808 ≤ k ∧ k ≤ 9223372036854775807) :
    Calls Tryz.prog 149 #[.pointer (some ⟨a.L, 0, none⟩), .int .i64 k] w fun e w' => e = .returned (.bool (j.lg.ackB k)) ∧ ∃ a', Js w a j w' a' { j with lg := j.lg.ack k } := by
  refine (CH.ack_any hk h.lg k hk6).mono ?_
  rintro e w' ⟨rfl, hp, ho⟩
  refine ⟨rfl, ?_⟩
  rcases hp with ⟨h1, rfl⟩ | ⟨h1, ad, hs⟩
  · have e1 : j.lg.ack k = j.lg := if_neg (by rw [h1]; decide)
    rw [e1]
    exact ⟨a, Js.refl h⟩
  · have hle := h.lg.rs.le
    have e1 : (j.lg.ack k).R.length = j.lg.R.length - (k.toNat - j.lg.go) := by unfold CH.Sn.ack; rw [if_pos h1]; simp
    exact ⟨_, h.s1 (Kp.of_on ho h.lg.cb (by decide) (fun i => .inl rfl)) hs (fun h0 => .inr ⟨rfl, Nat.le_add_right _ _, by omega, .inr e1⟩)⟩
/-- cells that a call of this sender may turn -/
def JA.g2 (a : JA) (j : Jb) (b i : Nat) : Prop := b = a.A ∨ (b = a.X2 ∧ a.o2 + j.ar.R.length ≤ i ∧ i < a.o2 + a.c2)
theorem JA.g2_g {a : JA} {j : Jb} {b i : Nat} (h : a.g2 j b i) : a.g j b i := by
  rcases h with h | h
  · exact .inr (.inr (.inl h))
  · exact .inr (.inr (.inr (.inr h)))
/-- one of the senders has moved -/
theorem Jm.s2 {w w' : World} {a : JA} {j : Jb} {s : CH.Sn} {d : Option Addr} {c X o : Nat} (h : Jm w a j) (k : Kp (a.g2 j) w w') (hs : CH.Sb w' a.A s d c X o)
    (hx : 0 < c → w.heap.size ≤ X ∨ (X = a.X2 ∧ a.o2 ≤ o ∧ o + c ≤ a.o2 + a.c2 ∧ (a.o2 + j.ar.R.length ≤ o + s.R.length ∨ s.R.length = c))) :
    Js w a j w' { a with d2 := d, c2 := c, X2 := X, o2 := o } { j with ar := s } := by
  have hb : ∀ {b : Nat} {cs : Array Value} {t : TypeId}, w.heap[b]? = some (.cells cs t (0, 0)) → t ≠ 170 → t ≠ 9 → w'.heap[b]? = w.heap[b]? := fun hc h1 h2 => k.block _ (lt_of_block hc) (fun i hi => by
    rcases hi with e | ⟨e, h3, h4⟩
    · exact CH.blk_ne hc h.ar.cb h1 e
    · obtain ⟨cur, hX⟩ := h.x2 (by have := h.ar.rs.le; omega)
      exact CH.blk_ne hc hX h2 e)
  have hA : w'.heap[a.L]? = w.heap[a.L]? := k.block _ h.lg.lt (fun i hi => by
    rcases hi with e | ⟨e, h3, h4⟩
    · exact h.la e
    · obtain ⟨cur, hX⟩ := h.x2 (by have := h.ar.rs.le; omega)
      exact CH.blk_ne h.lg.cb hX (by decide) e)
  have hR : CH.Rs w' a.d1 a.c1 a.X1 a.o1 j.lg.R := Rs_kp h.lg.rs k (fun i h1 h2 hi => by
    have hl := h.lg.rs.le
    obtain ⟨cur, hX⟩ := h.x1 (by omega)
    rcases hi with e | ⟨e, h3, h4⟩
    · exact CH.blk_ne hX h.ar.cb (by decide) e
    · have hl := h.ar.rs.le
      exact h.xx (by omega) (by omega) e)
  refine ⟨⟨(hb h.jb (by decide) (by decide)).trans h.jb, ⟨(hb h.mb.blk (by decide) (by decide)).trans h.mb.blk, h.mb.l8⟩, h.cd.keep ?_, ⟨hA.trans h.lg.cb, hR⟩, hs, h.la, ?_⟩, rfl, rfl, rfl, rfl, k.mono (fun b i h => .inl (JA.g2_g h)), ?_, ?_⟩
  · obtain ⟨cur, hc⟩ := h.cd.typ
    exact hb hc (by decide) (by decide)
  · intro h1 h2 e
    replace h1 : 0 < a.c1 := h1
    replace h2 : 0 < c := h2
    replace e : a.X1 = X := e
    rcases hx h2 with h9 | ⟨e1, h3, h4, _⟩
    · have := h.lg.rs.lt h1
      omega
    · exact h.xx h1 (by omega) (e.trans e1)
  · rintro b i hbi
    have hbi : b = a.M ∨ b = a.L ∨ b = a.A ∨ (b = a.X1 ∧ a.o1 + j.lg.R.length ≤ i ∧ i < a.o1 + a.c1) ∨ (b = X ∧ o + s.R.length ≤ i ∧ i < o + c) := hbi
    rcases hbi with e | e | e | h9 | h9
    · exact .inl (.inl e)
    · exact .inl (.inr (.inl e))
    · exact .inl (.inr (.inr (.inl e)))
    · exact .inl (.inr (.inr (.inr (.inl h9))))
    · obtain ⟨e, h3, h4⟩ := h9
      rcases hx (by omega) with h5 | ⟨e1, h5, h6, h7⟩
      · exact .inr (e ▸ h5)
      · exact .inl (.inr (.inr (.inr (.inr ⟨e.trans e1, by omega, by omega⟩))))
  · rintro b i hbi
    have hbi : b = a.J ∨ b = a.M ∨ b = a.L ∨ b = a.A ∨ b = cxB a.v ∨ (b = a.X1 ∧ a.o1 ≤ i ∧ i < a.o1 + a.c1) ∨ (b = X ∧ o ≤ i ∧ i < o + c) := hbi
    rcases hbi with e | e | e | e | e | h9 | h9
    · exact .inl (.inl e)
    · exact .inl (.inr (.inl e))
    · exact .inl (.inr (.inr (.inl e)))
    · exact .inl (.inr (.inr (.inr (.inl e))))
    · exact .inl (.inr (.inr (.inr (.inr (.inl e)))))
    · exact .inl (.inr (.inr (.inr (.inr (.inr (.inl h9))))))
    · obtain ⟨e, h3, h4⟩ := h9
      rcases hx (by omega) with h5 | ⟨e1, h5, h6, h7⟩
      · exact .inr (e ▸ h5)
      · exact .inl (.inr (.inr (.inr (.inr (.inr (.inr ⟨e.trans e1, by omega, by omega⟩))))))
/-- a call that leaves its texts where they are -/
theorem Jm.on2 {w w' : World} {a : JA} {j : Jb} {s : CH.Sn} (h : Jm w a j) (ho : CH.On a.A w w') (hs : CH.Sb w' a.A s a.d2 a.c2 a.X2 a.o2) (hl : s.R.length = j.ar.R.length) : Js w a j w' a { j with ar := s } :=
  h.s2 (Kp.of_on ho h.ar.cb (by decide) (fun i => .inl rfl)) hs (fun _ => .inr ⟨rfl, Nat.le_refl _, Nat.le_refl _, .inl (by rw [hl]; exact Nat.le_refl _)⟩)
theorem jput2 {w : World} {a : JA} {j : Jb} (h : Jm w a j) (hk : j.ar.ok) (t : ByteArray) :
    Calls Tryz.prog 126 #[.pointer (some ⟨a.A, 0, none⟩), .string t] w fun e w' => e = .returned (.int .i64 (j.ar.putE t)) ∧ ∃ a', Js w a j w' a' { j with ar := j.ar.put t } := by
  refine (CH.sput_any hk h.ar t).mono ?_
  rintro e w' ⟨rfl, hp⟩
  refine ⟨rfl, ?_⟩
  rcases hp with ⟨h1, m, rfl⟩ | ⟨h1, ad, cap, X, o, hs, hf⟩
  · have e1 : j.ar.put t = j.ar := if_neg h1
    rw [e1]
    exact ⟨a, (Js.refl h).low ⟨rfl, rfl, rfl, Nat.le_refl _, fun _ _ => rfl⟩⟩
  · have e1 : j.ar.put t = j.ar.add t := if_pos h1
    rw [e1]
    have hle := h.ar.rs.le
    have e2 : (j.ar.add t).R.length = j.ar.R.length + 1 := by show (j.ar.R ++ [t]).length = _; simp
    rcases hf with ⟨h2, r1, r2, r3, r4, hp⟩ | ⟨h2, ho⟩
    · subst r1; subst r2; subst r3; subst r4
      exact ⟨_, h.s2 (Kp.of_pt hp h.ar.cb (by decide) (fun i => .inl rfl) (.inr ⟨rfl, Nat.le_refl _, by omega⟩)) hs (fun _ => .inr ⟨rfl, Nat.le_refl _, Nat.le_refl _, .inl (by omega)⟩)⟩
    · exact ⟨_, h.s2 (Kp.of_on ho h.ar.cb (by decide) (fun i => .inl rfl)) hs (fun _ => .inl h2)⟩
theorem jtick2 {w : World} {a : JA} {j : Jb} (h : Jm w a j) (hk : j.ar.ok) :
    Calls Tryz.prog 56 #[.pointer (some ⟨a.A, 0, none⟩)] w fun e w' => e = .returned (.tuple #[]) ∧ Js w a j w' a { j with ar := j.ar.tick } := by
  refine (CH.tick_any hk h.ar).mono ?_
  rintro e w' ⟨rfl, hs, ho⟩
  exact ⟨rfl, h.on2 ho hs rfl⟩
theorem jdue2 {w : World} {a : JA} {j : Jb} (h : Jm w a j) (hk : j.ar.ok) :
    Calls Tryz.prog 89 #[.pointer (some ⟨a.A, 0, none⟩)] w fun e w' => ∃ v, e = .returned v ∧ w'.ownsRow w.heap.size 159 2 v j.ar.its.length (CH.ics j.ar.its) ∧ Js w a j w' a { j with ar := j.ar.due } := by
  refine (CH.due_any hk h.ar).mono ?_
  rintro e w' ⟨v, rfl, hv, hs, ho⟩
  exact ⟨v, rfl, hv, h.on2 ho hs (by unfold CH.Sn.due; split <;> rfl)⟩
theorem jack2 {w : World} {a : JA} {j : Jb} (h : Jm w a j) (hk : j.ar.ok) (k : Int) (hk6 : -9223372036854775808 ≤ k ∧ k ≤ 9223372036854775807) :
    Calls Tryz.prog 149 #[.pointer (some ⟨a.A, 0, none⟩), .int .i64 k] w fun e w' => e = .returned (.bool (j.ar.ackB k)) ∧ ∃ a', Js w a j w' a' { j with ar := j.ar.ack k } := by
  refine (CH.ack_any hk h.ar k hk6).mono ?_
  rintro e w' ⟨rfl, hp, ho⟩
  refine ⟨rfl, ?_⟩
  rcases hp with ⟨h1, rfl⟩ | ⟨h1, ad, hs⟩
  · have e1 : j.ar.ack k = j.ar := if_neg (by rw [h1]; decide)
    rw [e1]
    exact ⟨a, Js.refl h⟩
  · have hle := h.ar.rs.le
    have e1 : (j.ar.ack k).R.length = j.ar.R.length - (k.toNat - j.ar.go) := by unfold CH.Sn.ack; rw [if_pos h1]; simp
    exact ⟨_, h.s2 (Kp.of_on ho h.ar.cb (by decide) (fun i => .inl rfl)) hs (fun h0 => .inr ⟨rfl, Nat.le_add_right _ _, by omega, .inr e1⟩)⟩
end Go.Proofs.YtkfnedhllfdghaaGreatDoor.RN
end

section
namespace Go.Proofs.YtkfnedhllfdghaaGreatDoor.RN
open Go.RowKit Go.Shelf
set_option maxRecDepth 20000

/-- where a runner lies -/
structure RA where
  R : Nat
  C : Nat
  tv : Value
  ja : JA
def jp (a : JA) : Option Jb → Value
  | none => .pointer none
  | some _ => .pointer (some ⟨a.J, 0, none⟩)
def rcs (a : RA) (r : Rn) : Array Value := #[.int .i64 (r.sl : Int), .int .i64 (r.li : Int), .int .i64 (r.wd : Int), .int .i64 (r.rs : Int), .int .i64 (r.qu : Int), .pointer (some ⟨a.C, 0, none⟩), jp a.ja r.j, a.tv]
structure Rm (w : World) (a : RA) (r : Rn) : Prop where
  rb : w.heap[a.R]? = some (.cells (rcs a r) 84 (0, 0))
  cb : SE.Cb w a.C r.c
  j : ∀ j, r.j = some j → Jm w a.ja j
  tl : w.ownsRow 0 98 13 a.tv r.T.length (ecs r.T)
  tb : Tbs w
  cl : ∀ b i, (b = a.R ∨ b = a.C ∨ a.tv.ownBlock = some b ∨ ∃ j, r.j = some j ∧ a.ja.g j b i) → b ≠ 2 ∧ b ≠ 3
def RA.g (a : RA) (r : Rn) (b i : Nat) : Prop := b = a.R ∨ b = a.C ∨ a.tv.ownBlock = some b ∨ ∃ j, r.j = some j ∧ a.ja.g j b i
def RA.d (a : RA) (r : Rn) (b i : Nat) : Prop := b = a.R ∨ b = a.C ∨ a.tv.ownBlock = some b ∨ (∃ j, r.j = some j ∧ a.ja.d b i) ∨ b = 2 ∨ b = 3
theorem RA.g_d {a : RA} {r : Rn} {b i : Nat} (h : a.g r b i) : a.d r b i := by
  rcases h with h | h | h | ⟨j, h1, h2⟩
  · exact .inl h
  · exact .inr (.inl h)
  · exact .inr (.inr (.inl h))
  · exact .inr (.inr (.inr (.inl ⟨j, h1, JA.g_d h2⟩)))
theorem Tbs_kp {G : Nat → Nat → Prop} {w w' : World} (h : Tbs w) (k : Kp G w w') (h1 : ∀ i, ¬ G 2 i) (h2 : ∀ i, ¬ G 3 i) : Tbs w' := by
  have e1 := k.block _ h.lt64 h1
  have e2 := k.block _ h.lt10 h2
  refine ⟨fun j hj => (World.cell?_of_block e1).trans (h.t64 j hj), ?_⟩
  have h3 := h.t10
  unfold Tab10 Lib.TabIs World.var? at h3 ⊢
  simp only [glob10, Option.bind_some] at h3 ⊢
  rw [e2]
  exact h3
theorem cell_of {w : World} {B : Nat} {cs : Array Value} {t : TypeId} {i : Nat} {v : Value} (h : w.heap[B]? = some (.cells cs t (0, 0))) (hi : cs[i]? = some v) : w.cell? ⟨B, i, none⟩ = some v := by
  simp only [World.cell?, h]
  exact hi
theorem own_blk {w : World} {base e size n : Nat} {v : Value} {xs : List Value} (h : w.ownsRow base e size v n xs) {g : Nat} (hg : v.ownBlock = some g) : ∃ cs, w.heap[g]? = some (.cells cs e (0, 0)) := by
  rcases h.2 with ⟨h1, _⟩ | ⟨g', cap, cur, rfl, _, hg', _⟩
  · rw [h1] at hg; cases hg
  · cases hg
    exact ⟨_, hg'⟩
theorem Rm.lt {w : World} {a : RA} {r : Rn} (h : Rm w a r) {b i : Nat} (hd : a.d r b i) : b < w.heap.size := by
  rcases hd with e | e | e | ⟨j, hj, h2⟩ | e | e
  · exact e ▸ lt_of_block h.rb
  · exact e ▸ h.cb.lt
  · obtain ⟨cs, hc⟩ := own_blk h.tl e
    exact lt_of_block hc
  · exact (h.j j hj).lt h2
  · exact e ▸ h.tb.lt64
  · exact e ▸ h.tb.lt10
/-- a runner that lies apart from what was turned -/
theorem Rm.kp {G : Nat → Nat → Prop} {w w' : World} {a : RA} {r : Rn} (h : Rm w a r) (k : Kp G w w') (hn : ∀ b i, a.d r b i → ¬ G b i) : Rm w' a r :=
  ⟨(k.block _ (lt_of_block h.rb) (fun i => hn _ i (.inl rfl))).trans h.rb, (k.block _ h.cb.lt (fun i => hn _ i (.inr (.inl rfl)))).trans h.cb,
    fun j hj => (h.j j hj).kp k (fun b i hd => hn b i (.inr (.inr (.inr (.inl ⟨j, hj, hd⟩))))),
    CH.own_keep h.tl (fun g hg => by
      obtain ⟨cs, hc⟩ := own_blk h.tl hg
      exact k.block _ (lt_of_block hc) (fun i => hn _ i (.inr (.inr (.inl hg))))),
    Tbs_kp h.tb k (fun i => hn _ i (.inr (.inr (.inr (.inr (.inl rfl)))))) (fun i => hn _ i (.inr (.inr (.inr (.inr (.inr rfl)))))), h.cl⟩
theorem Rm.below {w w' : World} {a : RA} {r : Rn} (h : Rm w a r) (k : Below w.heap.size w w') : Rm w' a r := h.kp (G := fun _ _ => False) (Kp.of_below k) (fun _ _ _ h => h)
/-- a call of a runner's: how it stands behind it -/
structure St (w : World) (a : RA) (r : Rn) (w' : World) (a' : RA) (r' : Rn) : Prop where
  rm : Rm w' a' r'
  R : a'.R = a.R
  C : a'.C = a.C
  kp : Kp (a.g r) w w'
  g : ∀ b i, a'.g r' b i → a.g r b i ∨ w.heap.size ≤ b
  d : ∀ b i, a'.d r' b i → a.d r b i ∨ w.heap.size ≤ b
theorem St.refl {w : World} {a : RA} {r : Rn} (h : Rm w a r) : St w a r w a r := ⟨h, rfl, rfl, Kp.refl _ _, fun _ _ h => .inl h, fun _ _ h => .inl h⟩
theorem St.trans {u v w : World} {a b c : RA} {i j k : Rn} (h : St u a i v b j) (h' : St v b j w c k) : St u a i w c k :=
  ⟨h'.rm, h'.R.trans h.R, h'.C.trans h.C, h.kp.trans h'.kp h.g, fun x y hx => (h'.g x y hx).elim (h.g x y) (fun h9 => .inr (Nat.le_trans h.kp.size h9)), fun x y hx => (h'.d x y hx).elim (h.d x y) (fun h9 => .inr (Nat.le_trans h.kp.size h9))⟩
theorem St.low {u v w : World} {a b : RA} {i j : Rn} (h : St u a i v b j) (k : Below v.heap.size v w) : St u a i w b j :=
  ⟨h.rm.below k, h.R, h.C, h.kp.low k, h.g, h.d⟩
theorem St.pre {u v w : World} {a b : RA} {i j : Rn} (k : Below u.heap.size u v) (h : St v a i w b j) : St u a i w b j :=
  ⟨h.rm, h.R, h.C, h.kp.pre k, fun x y hx => (h.g x y hx).imp_right (Nat.le_trans k.size), fun x y hx => (h.d x y hx).imp_right (Nat.le_trans k.size)⟩
section
variable {w w' : World} {a : RA} {r : Rn}
theorem Rm.c0 (h : Rm w a r) : w.cell? ⟨a.R, 0, none⟩ = some (.int .i64 (r.sl : Int)) := cell_of h.rb rfl
theorem Rm.c1 (h : Rm w a r) : w.cell? ⟨a.R, 1, none⟩ = some (.int .i64 (r.li : Int)) := cell_of h.rb rfl
theorem Rm.c2 (h : Rm w a r) : w.cell? ⟨a.R, 2, none⟩ = some (.int .i64 (r.wd : Int)) := cell_of h.rb rfl
theorem Rm.c3 (h : Rm w a r) : w.cell? ⟨a.R, 3, none⟩ = some (.int .i64 (r.rs : Int)) := cell_of h.rb rfl
theorem Rm.c4 (h : Rm w a r) : w.cell? ⟨a.R, 4, none⟩ = some (.int .i64 (r.qu : Int)) := cell_of h.rb rfl
theorem Rm.c5 (h : Rm w a r) : w.cell? ⟨a.R, 5, none⟩ = some (.pointer (some ⟨a.C, 0, none⟩)) := cell_of h.rb rfl
theorem Rm.c6 (h : Rm w a r) : w.cell? ⟨a.R, 6, none⟩ = some (jp a.ja r.j) := cell_of h.rb rfl
theorem Rm.c7 (h : Rm w a r) : w.cell? ⟨a.R, 7, none⟩ = some a.tv := cell_of h.rb rfl
theorem Rm.z (h : Rm w a r) (k : Nat) : w.frozen? ⟨a.R, k, none⟩ = false := by have h := h.rb; simp [World.frozen?, h]
theorem Jm.c0 {j : Jb} {b : JA} (h : Jm w b j) : w.cell? ⟨b.J, 0, none⟩ = some (.pointer (some ⟨b.M, 0, none⟩)) := cell_of h.jb rfl
theorem Jm.c1_ {j : Jb} {b : JA} (h : Jm w b j) : w.cell? ⟨b.J, 1, none⟩ = some (.int .i64 j.no) := cell_of h.jb rfl
theorem Jm.c2_ {j : Jb} {b : JA} (h : Jm w b j) : w.cell? ⟨b.J, 2, none⟩ = some (.int .i64 j.ba) := cell_of h.jb rfl
theorem Jm.c3_ {j : Jb} {b : JA} (h : Jm w b j) : w.cell? ⟨b.J, 3, none⟩ = some (.pointer (some ⟨b.L, 0, none⟩)) := cell_of h.jb rfl
theorem Jm.c4_ {j : Jb} {b : JA} (h : Jm w b j) : w.cell? ⟨b.J, 4, none⟩ = some (.pointer (some ⟨b.A, 0, none⟩)) := cell_of h.jb rfl
/-- the blocks of a runner lie apart, by their types -/
theorem Rm.jno (h : Rm w a r) {j : Jb} (hj : r.j = some j) {b i : Nat} {cs : Array Value} {t : TypeId} (hc : w.heap[b]? = some (.cells cs t (0, 0)))
    (h1 : t ≠ 126) (h2 : t ≠ 204) (h3 : t ≠ 170) (h4 : t ≠ 189) (h5 : t ≠ 9) : ¬ a.ja.d b i := by
  have J := h.j j hj
  rintro (e | e | e | e | e | ⟨e, k1, k2⟩ | ⟨e, k1, k2⟩)
  · exact CH.blk_ne hc J.jb h1 e
  · exact CH.blk_ne hc J.mb.blk h2 e
  · exact CH.blk_ne hc J.lg.cb h3 e
  · exact CH.blk_ne hc J.ar.cb h3 e
  · obtain ⟨cur, hd⟩ := J.cd.typ
    exact CH.blk_ne hc hd h4 e
  · obtain ⟨cur, hd⟩ := J.x1 (by omega)
    exact CH.blk_ne hc hd h5 e
  · obtain ⟨cur, hd⟩ := J.x2 (by omega)
    exact CH.blk_ne hc hd h5 e
/-- how a runner stands behind a call, by its parts -/
theorem St.of {a' : RA} {r' : Rn} (h : Rm w a r) (kp : Kp (a.g r) w w') (rb : w'.heap[a'.R]? = some (.cells (rcs a' r') 84 (0, 0))) (cb : SE.Cb w' a'.C r'.c) (j : ∀ j, r'.j = some j → Jm w' a'.ja j)
    (tl : w'.ownsRow 0 98 13 a'.tv r'.T.length (ecs r'.T)) (hR : a'.R = a.R) (hC : a'.C = a.C) (ht : ∀ b, a'.tv.ownBlock = some b → a.tv.ownBlock = some b ∨ w.heap.size ≤ b)
    (hg : ∀ j' b i, r'.j = some j' → a'.ja.g j' b i → a.g r b i ∨ w.heap.size ≤ b) (hd : ∀ j' b i, r'.j = some j' → a'.ja.d b i → a.d r b i ∨ w.heap.size ≤ b) : St w a r w' a' r' := by
  have g : ∀ b i, a'.g r' b i → a.g r b i ∨ w.heap.size ≤ b := by
    rintro b i (e | e | e | ⟨j', h1, h2⟩)
    · exact .inl (.inl (e.trans hR))
    · exact .inl (.inr (.inl (e.trans hC)))
    · exact (ht b e).imp_left (fun h => .inr (.inr (.inl h)))
    · exact hg j' b i h1 h2
  have hcl : ∀ b i, a'.g r' b i → b ≠ 2 ∧ b ≠ 3 := fun b i hb => (g b i hb).elim (h.cl b i) (fun h9 => ⟨fun e => absurd (e ▸ h9) (Nat.not_le.2 h.tb.lt64), fun e => absurd (e ▸ h9) (Nat.not_le.2 h.tb.lt10)⟩)
  refine ⟨⟨rb, cb, j, tl, Tbs_kp h.tb kp (fun i hi => (h.cl _ i hi).1 rfl) (fun i hi => (h.cl _ i hi).2 rfl), hcl⟩, hR, hC, kp, g, ?_⟩
  rintro b i (e | e | e | ⟨j', h1, h2⟩ | e | e)
  · exact .inl (.inl (e.trans hR))
  · exact .inl (.inr (.inl (e.trans hC)))
  · exact (ht b e).imp_left (fun h => .inr (.inr (.inl h)))
  · exact hd j' b i h1 h2
  · exact .inl (.inr (.inr (.inr (.inr (.inl e)))))
  · exact .inl (.inr (.inr (.inr (.inr (.inr e)))))
theorem Rm.told_ne (h : Rm w a r) {b g : Nat} {cs : Array Value} {t : TypeId} (hc : w.heap[b]? = some (.cells cs t (0, 0))) (hn : t ≠ 98) (hg : a.tv.ownBlock = some g) : b ≠ g := by
  obtain ⟨cs', hd⟩ := own_blk h.tl hg
  exact CH.blk_ne hc hd hn
/-- the caller alone has moved -/
theorem St.call {c : SE.Cl} (h : Rm w a r) (ho : SE.On a.C w w') (hc : SE.Cb w' a.C c) : St w a r w' a { r with c := c } := by
  have hb : ∀ {b : Nat} {cs : Array Value} {t : TypeId}, w.heap[b]? = some (.cells cs t (0, 0)) → t ≠ 105 → w'.heap[b]? = w.heap[b]? := fun hx ht => ho.block _ (lt_of_block hx) (CH.blk_ne hx h.cb ht)
  have kp : Kp (fun b _ => b = a.C) w w' := Kp.of_onE ho h.cb (by decide) (fun _ => rfl)
  refine St.of h (kp.mono (fun b i e => .inl (.inr (.inl e)))) ((hb h.rb (by decide)).trans h.rb) hc (fun j hj => (h.j j hj).kp kp (fun b i hd e => ?_)) (CH.own_keep h.tl (fun g hg => ?_)) rfl rfl (fun b e => .inl e) (fun j b i hj hg => .inl (.inr (.inr (.inr ⟨j, hj, hg⟩)))) (fun j b i hj hd => .inl (.inr (.inr (.inr (.inl ⟨j, hj, hd⟩)))))
  · exact h.jno hj h.cb (by decide) (by decide) (by decide) (by decide) (by decide) (e ▸ hd)
  · obtain ⟨cs', hd⟩ := own_blk h.tl hg
    exact hb hd (by decide)
/-- the job alone has moved -/
theorem St.job {j j' : Jb} {b : JA} (h : Rm w a r) (hj : r.j = some j) (hs : Js w a.ja j w' b j') : St w a r w' { a with ja := b } { r with j := some j' } := by
  have hn : ∀ {k : Nat} {cs : Array Value} {t : TypeId}, w.heap[k]? = some (.cells cs t (0, 0)) → t ≠ 126 → t ≠ 204 → t ≠ 170 → t ≠ 189 → t ≠ 9 → w'.heap[k]? = w.heap[k]? := fun hc h1 h2 h3 h4 h5 =>
    hs.kp.block _ (lt_of_block hc) (fun i hi => h.jno hj hc h1 h2 h3 h4 h5 (JA.g_d hi))
  have e1 : rcs { a with ja := b } { r with j := some j' } = rcs a r := by
    unfold rcs
    rw [hj]
    show #[_, _, _, _, _, _, jp b (some j'), _] = #[_, _, _, _, _, _, jp a.ja (some j), _]
    unfold jp
    rw [hs.J]
  refine St.of h (hs.kp.mono (fun x i e => .inl (.inr (.inr (.inr ⟨j, hj, e⟩))))) (by rw [e1]; exact (hn h.rb (by decide) (by decide) (by decide) (by decide) (by decide)).trans h.rb) ((hn h.cb (by decide) (by decide) (by decide) (by decide) (by decide)).trans h.cb) (fun k hk => ?_) (CH.own_keep h.tl (fun g hg => ?_)) rfl rfl (fun x e => .inl e) (fun k x i hk hg => ?_) (fun k x i hk hd => ?_)
  · cases hk
    exact hs.jm
  · obtain ⟨cs', hd⟩ := own_blk h.tl hg
    exact hn hd (by decide) (by decide) (by decide) (by decide) (by decide)
  · cases hk
    exact (hs.g x i hg).imp_left (fun e => .inr (.inr (.inr ⟨j, hj, e⟩)))
  · exact (hs.d x i hd).imp_left (fun e => .inr (.inr (.inr (.inl ⟨j, hj, e⟩))))
/-- a cell of its own block is turned -/
theorem own_set (w : World) (g o : Nat) (v : Value) (cur : Array Value) (t : TypeId) (fr : Nat × Nat) (h : w.heap[g]? = some (.cells cur t fr)) : (w.setCell ⟨g, o, none⟩ v).heap[g]? = some (.cells (cur.setIfInBounds o v) t fr) := CH.heap_set_self w g o v cur t fr h
theorem on_set (w : World) (g o : Nat) (v : Value) : CH.On g w (w.setCell ⟨g, o, none⟩ v) := (CH.On.refl g w).set o v
/-- the job is dropped -/
theorem St.drop (h : Rm w a r) : St w a r (w.setCell ⟨a.R, 6, none⟩ (.pointer none)) a { r with j := none } := by
  have kp : Kp (fun b _ => b = a.R) w (w.setCell ⟨a.R, 6, none⟩ (.pointer none)) := Kp.of_on (on_set w a.R 6 _) h.rb (by decide) (fun _ => rfl)
  refine St.of h (kp.mono (fun b i e => .inl (.inl e))) (own_set w a.R 6 _ _ _ _ h.rb) ((kp.block _ h.cb.lt (fun i e => CH.blk_ne h.cb h.rb (by decide) e)).trans h.cb) (fun j hj => by cases hj) (CH.own_keep h.tl (fun g hg => ?_)) rfl rfl (fun b e => .inl e) (fun j b i hj => by cases hj) (fun j b i hj => by cases hj)
  obtain ⟨cs', hd⟩ := own_blk h.tl hg
  exact kp.block _ (lt_of_block hd) (fun i e => CH.blk_ne hd h.rb (by decide) e)
/-- what was told is handed over -/
theorem St.hand (h : Rm w a r) : St w a r (w.setCell ⟨a.R, 7, none⟩ (.slice none 0 0)) { a with tv := .slice none 0 0 } { r with T := [] } := by
  have kp : Kp (fun b _ => b = a.R) w (w.setCell ⟨a.R, 7, none⟩ (.slice none 0 0)) := Kp.of_on (on_set w a.R 7 _) h.rb (by decide) (fun _ => rfl)
  refine St.of h (kp.mono (fun b i e => .inl (.inl e))) (own_set w a.R 7 _ _ _ _ h.rb) ((kp.block _ h.cb.lt (fun i e => CH.blk_ne h.cb h.rb (by decide) e)).trans h.cb) (fun j hj => (h.j j hj).kp kp (fun b i hd e => ?_)) ⟨rfl, .inl ⟨rfl, rfl⟩⟩ rfl rfl (fun b e => by cases e) (fun j b i hj hg => .inl (.inr (.inr (.inr ⟨j, hj, hg⟩)))) (fun j b i hj hd => .inl (.inr (.inr (.inr (.inl ⟨j, hj, hd⟩)))))
  exact h.jno hj h.rb (by decide) (by decide) (by decide) (by decide) (by decide) (e ▸ hd)
/-- more is told: the row goes on, or lies in a new block -/
theorem St.tell {w2 : World} {v : Value} {T : List Ev} (h : Rm w a r) (ho : w2.ownsRow 0 98 13 v T.length (ecs T)) (hg : w.grownBy w2 a.tv.ownBlock) (hv : ∀ b, v.ownBlock = some b → a.tv.ownBlock = some b ∨ w.heap.size ≤ b) :
    St w a r (w2.setCell ⟨a.R, 7, none⟩ v) { a with tv := v } { r with T := T } := by
  have kp1 : Kp (fun b _ => a.tv.ownBlock = some b) w w2 := ⟨hg.os, hg.tape, hg.output, hg.size, fun j hj hn => hg.block j hj (fun e => hn 0 e.symm), fun j hj i hn => World.cell?_of_block (hg.block j hj (fun e => hn e.symm)), fun j cur hc => ⟨cur, (hg.block j (lt_of_block hc) (fun e => by
    obtain ⟨cs', hd⟩ := own_blk h.tl e.symm
    exact CH.blk_ne hc hd (by decide) rfl)).trans hc, rfl⟩⟩
  have hR2 : w2.heap[a.R]? = some (.cells (rcs a r) 84 (0, 0)) := (kp1.block _ (lt_of_block h.rb) (fun i e => h.told_ne h.rb (by decide) e rfl)).trans h.rb
  have kp2 : Kp (fun b _ => b = a.R) w2 (w2.setCell ⟨a.R, 7, none⟩ v) := Kp.of_on (on_set w2 a.R 7 _) hR2 (by decide) (fun _ => rfl)
  have kp : Kp (fun b _ => b = a.R ∨ a.tv.ownBlock = some b) w (w2.setCell ⟨a.R, 7, none⟩ v) := (kp1.mono (fun b i e => .inl (.inr e))).trans kp2 (fun b i e => .inl (.inl e))
  refine St.of h (kp.mono (fun b i e => .inl (e.elim .inl (fun e => .inr (.inr (.inl e)))))) (own_set w2 a.R 7 v _ _ _ hR2) ((kp.block _ h.cb.lt (fun i e => ?_)).trans h.cb) (fun j hj => (h.j j hj).kp kp (fun b i hd e => ?_)) (CH.own_keep ho (fun g hg => ?_)) rfl rfl (fun b e => ?_) (fun j b i hj hg => .inl (.inr (.inr (.inr ⟨j, hj, hg⟩)))) (fun j b i hj hd => .inl (.inr (.inr (.inr (.inl ⟨j, hj, hd⟩)))))
  · rcases e with e | e
    · exact CH.blk_ne h.cb h.rb (by decide) e
    · exact h.told_ne h.cb (by decide) e rfl
  · rcases e with e | e
    · exact h.jno hj h.rb (by decide) (by decide) (by decide) (by decide) (by decide) (e ▸ hd)
    · obtain ⟨cs', hc⟩ := own_blk h.tl e
      exact h.jno hj hc (by decide) (by decide) (by decide) (by decide) (by decide) hd
  · obtain ⟨cs', hd⟩ := own_blk ho hg
    exact kp2.block _ (lt_of_block hd) (fun i e => CH.blk_ne hd hR2 (by decide) e)
  · exact hv b e
end
end Go.Proofs.YtkfnedhllfdghaaGreatDoor.RN
end

section
namespace Go.Proofs.YtkfnedhllfdghaaGreatDoor.RN
open Go.RowKit Go.Shelf
set_option maxRecDepth 20000

theorem Jm.drewN {w : World} {a : JA} {j : Jb} (h : Jm w a j) (n : Nat) : Jm (w.drewN n) a j := h.below ⟨rfl, rfl, rfl, Nat.le_refl _, fun _ _ => rfl⟩
theorem below_dr (w : World) (n : Nat) : Below w.heap.size w (w.drewN n) := ⟨rfl, rfl, rfl, Nat.le_refl _, fun _ _ => rfl⟩
theorem drewN_zero (w : World) : w.drewN 0 = w := rfl
set_option maxHeartbeats 2000000 in
theorem goes_any {w : World} {a : JA} {j : Jb} (h : Jm w a j) (hk : j.ok) :
    Calls Tryz.prog 86 #[.pointer (some ⟨a.J, 0, none⟩)] w fun e w' => e = .returned (.bool j.goes) ∧ Below w.heap.size w w' := by
  have c0 := h.c0
  have c3 := h.c3_
  have c4 := h.c4_
  have HO := hide (over_any h.mb)
  have HR1 := hide (CH.room_any hk.lg h.lg)
  have HR2 := hide (fun n => CH.room_any hk.ar (h.ar.drewN n))
  have e0 : j.goes = (!j.m.ov && (decide (j.lg.R.length < j.lg.wd) && decide (j.ar.R.length < j.ar.wd))) := rfl
  rw [e0]
  clear h hk e0
  generalize decide (j.lg.R.length < j.lg.wd) = b1 at *
  generalize decide (j.ar.R.length < j.ar.wd) = b2 at *
  cases ho : j.m.ov with
  | true =>
    rw [ho] at HO
    go_enter Tryz.func86, Tryz.ntmps86
    go_wp2_with fail
    refine HO.out.mono ?_
    rintro e w1 ⟨rfl, rfl⟩
    go_wp2_with fail
    go_ret
    exact ⟨rfl, Below.refl _ _⟩
  | false =>
    rw [ho] at HO
    cases b1 with
    | false =>
      go_enter Tryz.func86, Tryz.ntmps86
      go_wp2_with fail
      refine HO.out.mono ?_
      rintro e w1 ⟨rfl, rfl⟩
      go_wp2_with fail
      refine HR1.out.mono ?_
      rintro e w2 ⟨rfl, m, rfl⟩
      go_wp2_with fail
      go_ret
      exact ⟨rfl, below_dr _ _⟩
    | true =>
      go_enter Tryz.func86, Tryz.ntmps86
      go_wp2_with fail
      refine HO.out.mono ?_
      rintro e w1 ⟨rfl, rfl⟩
      go_wp2_with fail
      refine HR1.out.mono ?_
      rintro e w2 ⟨rfl, m, rfl⟩
      go_wp2_with fail
      refine (HR2.out _).mono ?_
      rintro e w3 ⟨rfl, m2, rfl⟩
      go_wp2_with fail
      go_ret
      exact ⟨by simp, below_dr _ _⟩
/-- all that belongs to its result has come -/
def Jb.all (j : Jb) : Bool := j.m.ov && (((j.lg.go : Int) == (j.lg.len : Int)) && ((j.ar.go : Int) == (j.ar.len : Int)))
theorem q_over {w : World} {a : JA} {j : Jb} (h : Jm w a j) (n : Nat) : Calls Tryz.prog 79 #[.pointer (some ⟨a.M, 0, none⟩)] (w.drewN n) fun e w' => e = .returned (.bool j.m.ov) ∧ ∃ m, w' = (w.drewN n).drewN m := (over_any (h.drewN n).mb).mono fun _ _ ⟨h1, h2⟩ => ⟨h1, 0, h2⟩
theorem q_acked1 {w : World} {a : JA} {j : Jb} (h : Jm w a j) (n : Nat) : Calls Tryz.prog 82 #[.pointer (some ⟨a.L, 0, none⟩)] (w.drewN n) fun e w' => e = .returned (.int .i64 (j.lg.go : Int)) ∧ ∃ m, w' = (w.drewN n).drewN m := (CH.acked_any (h.drewN n).lg).mono fun _ _ ⟨h1, h2⟩ => ⟨h1, 0, h2⟩
theorem q_acked2 {w : World} {a : JA} {j : Jb} (h : Jm w a j) (n : Nat) : Calls Tryz.prog 82 #[.pointer (some ⟨a.A, 0, none⟩)] (w.drewN n) fun e w' => e = .returned (.int .i64 (j.ar.go : Int)) ∧ ∃ m, w' = (w.drewN n).drewN m := (CH.acked_any (h.drewN n).ar).mono fun _ _ ⟨h1, h2⟩ => ⟨h1, 0, h2⟩
theorem q_len1 {w : World} {a : JA} {j : Jb} (h : Jm w a j) (hk : j.ok) (n : Nat) : Calls Tryz.prog 81 #[.pointer (some ⟨a.L, 0, none⟩)] (w.drewN n) fun e w' => e = .returned (.int .i64 (j.lg.len : Int)) ∧ ∃ m, w' = (w.drewN n).drewN m := (CH.len_any hk.lg.l (h.drewN n).lg).mono fun _ _ ⟨h1, h2⟩ => ⟨h1, h2⟩
theorem q_len2 {w : World} {a : JA} {j : Jb} (h : Jm w a j) (hk : j.ok) (n : Nat) : Calls Tryz.prog 81 #[.pointer (some ⟨a.A, 0, none⟩)] (w.drewN n) fun e w' => e = .returned (.int .i64 (j.ar.len : Int)) ∧ ∃ m, w' = (w.drewN n).drewN m := (CH.len_any hk.ar.l (h.drewN n).ar).mono fun _ _ ⟨h1, h2⟩ => ⟨h1, h2⟩
set_option maxHeartbeats 4000000 in
theorem all_any {w : World} {a : JA} {j : Jb} (h : Jm w a j) (hk : j.ok) :
    Calls Tryz.prog 133 #[.pointer (some ⟨a.J, 0, none⟩)] w fun e w' => e = .returned (.bool j.all) ∧ ∃ m, w' = w.drewN m := by
  have c0 := h.c0
  have c3 := h.c3_
  have c4 := h.c4_
  have HO := hide (fun n => q_over h n)
  have HA1 := hide (fun n => q_acked1 h n)
  have HA2 := hide (fun n => q_acked2 h n)
  have HL1 := hide (fun n => q_len1 h hk n)
  have HL2 := hide (fun n => q_len2 h hk n)
  have hLA := h.la
  unfold Jb.all
  clear h hk
  generalize (j.lg.go : Int) = g1 at *
  generalize (j.lg.len : Int) = n1 at *
  generalize (j.ar.go : Int) = g2 at *
  generalize (j.ar.len : Int) = n2 at *
  cases ho : j.m.ov with
  | false =>
    rw [ho] at HO
    go_enter Tryz.func133, Tryz.ntmps133
    go_wp2_with fail
    go_quiet ((go_at_call 79; exact Calls.quiet_of (HO.out _)))
    go_wp2_with fail
    go_ret
    exact ⟨rfl, _, rfl⟩
  | true =>
    rw [ho] at HO
    cases hb1 : (g1 == n1) with
    | false =>
      go_enter Tryz.func133, Tryz.ntmps133
      go_wp2_with fail
      go_quiet (first | (go_at_call 79; exact Calls.quiet_of (HO.out _)) | (go_at_call 82; exact Calls.quiet_of (HA1.out _)) | (go_at_call 81; exact Calls.quiet_of (HL1.out _)))
      go_wp2_with fail
      go_ret
      exact ⟨rfl, _, rfl⟩
    | true =>
      go_enter Tryz.func133, Tryz.ntmps133
      go_wp2_with fail
      go_quiet (first | (go_at_call 79; exact Calls.quiet_of (HO.out _)) | (go_at_call 82; exact Calls.quiet_of (HA1.out _)) | (go_at_call 81; exact Calls.quiet_of (HL1.out _)) | (go_at_call 82; exact Calls.quiet_of (HA2.out _)) | (go_at_call 81; exact Calls.quiet_of (HL2.out _)))
      go_wp2_with fail
      go_ret
      exact ⟨by simp, _, rfl⟩
theorem results_c1 {fn : Func} {p : Tmp} {ty : TypeId} (h : fn.results = #[.cell p ty]) (tmps : Array Value) (P : Program) (w : World) :
    (results fn tmps).run P w = ((asAddr (tmps.getD p undef)).run P w).andThen fun a w₁ => (loadVar ty a).run P w₁ := CH.results_c h tmps P w
set_option maxHeartbeats 2000000 in
theorem addr_any {w : World} {a : RA} {r : Rn} (h : Rm w a r) (h8 : r.sl < 8) :
    Calls Tryz.prog 88 #[.pointer (some ⟨a.R, 0, none⟩)] w fun e w' => e = .returned (.agg #[.int .i64 (2 + (r.sl : Int)), .int .i64 (r.li : Int)]) ∧ Below w.heap.size w w' := by
  have c0 := h.c0
  have c1 := h.c1
  have hlt := lt_of_block h.rb
  clear h
  go_enter Tryz.func88, Tryz.ntmps88
  go_wp2_with fail
  go_region
  go_wp2_with fail
  go_wp2_with fail
  refine bodyPost_ret (by rw [results_c1 (fn := Tryz.f88) rfl]; go_simp; rfl) rfl ?_
  exact ⟨rfl, CH.below_drew (CH.below_alloc _ _)⟩
set_option maxHeartbeats 2000000 in
theorem to_any {w : World} {a : RA} {r : Rn} (h : Rm w a r) (h8 : r.sl < 8) (n : Int) (m : W.Wr.Ms) (hrb : m.rb < 18446744073709551616) :
    Calls Tryz.prog 44 #[.pointer (some ⟨a.R, 0, none⟩), .int .i64 n, .agg (W.msgC m)] w fun e w' => e = .returned (.agg #[.int .i64 0, .int .i64 (2 + (r.sl : Int)), .int .i64 (r.li : Int), .int .i64 n, .int .i64 0, .string (W.encB m)]) ∧ Below w.heap.size w w' := by
  have HA := hide (fun V (hb : Below w.heap.size w V) => addr_any (h.below hb) h8)
  have HE := hide (W.encode_any m hrb)
  unfold W.msgC at HE ⊢
  clear h h8
  obtain ⟨o1, ho1⟩ : ∃ o1, Obj.cells #[.int .i64 m.k, .int .i64 m.se, .int .i64 m.nu, .int .i64 m.jo, .int .i64 m.ba, .int .i64 m.ix, .int .i64 m.co, .int .i64 m.rc, .int .u64 (m.rb : Int), .string m.tx, .string m.pr] 67 (0, 0) = o1 := ⟨_, rfl⟩
  have hb0 : Below w.heap.size w ((w.alloc o1).alloc (.cells #[.int .i64 0, .int .i64 0, .int .i64 0, .int .i64 0, .int .i64 0, .string ⟨#[]⟩] 94)) := ((Below.refl _ w).alloc (Nat.le_refl _) _).alloc (by simp) _
  have hd0 := heap_alloc_new (w.alloc o1) (.cells #[.int .i64 0, .int .i64 0, .int .i64 0, .int .i64 0, .int .i64 0, .string ⟨#[]⟩] 94)
  rw [World.size_alloc] at hd0
  subst ho1
  have HB0 := hide hb0
  have HD0 := hide hd0
  clear hb0 hd0
  go_enter Tryz.func44, Tryz.ntmps44
  go_wp2_with fail
  refine (HE.out _).mono ?_
  rintro e w1 ⟨rfl, hb1⟩
  have HB1 := hide (HB0.out.trans (hb1.mono HB0.out.size))
  have HD1 := hide ((hb1.block _ (lt_of_block HD0.out)).trans HD0.out)
  clear hb1 HB0 HD0
  go_wp2_with fail
  refine (HA.out _ HB1.out).mono ?_
  rintro e w2 ⟨rfl, hb2⟩
  have HB2 := hide (HB1.out.trans (hb2.mono HB1.out.size))
  have hd2 := (hb2.block _ (lt_of_block HD1.out)).trans HD1.out
  have hz : ∀ k, w2.frozen? ⟨w.heap.size + 1, k, none⟩ = false := fun k => by simp [World.frozen?, hd2]
  have d0 := cell_of (i := 0) hd2 rfl
  have d1 := cell_of (i := 1) hd2 rfl
  have d2 := cell_of (i := 2) hd2 rfl
  have d3 := cell_of (i := 3) hd2 rfl
  have d4 := cell_of (i := 4) hd2 rfl
  have d5 := cell_of (i := 5) hd2 rfl
  have hl2 := lt_of_block hd2
  clear hb2 HB1 HD1 hd2
  go_wp2_with fail
  refine bodyPost_ret (by rw [results_c1 (fn := Tryz.f44) rfl]; go_simp; rfl) rfl ?_
  exact ⟨rfl, ((((((HB2.out.setCell (p := ⟨w.heap.size + 1, 0, none⟩) (by simp) _).setCell (p := ⟨w.heap.size + 1, 1, none⟩) (by simp) _).setCell (p := ⟨w.heap.size + 1, 2, none⟩) (by simp) _).setCell (p := ⟨w.heap.size + 1, 3, none⟩) (by simp) _).setCell (p := ⟨w.heap.size + 1, 4, none⟩) (by simp) _).setCell (p := ⟨w.heap.size + 1, 5, none⟩) (by simp) _)⟩
end Go.Proofs.YtkfnedhllfdghaaGreatDoor.RN
end
