import Derived.Test.YthjngodkpldpfaaGreatDoorMgAU
import Derived.Deep.AppendLies
import Derived.Lib.SmallJoins

section
namespace Go.Proofs.YthjngodkpldpfaaGreatDoor
open Go.RowKit Go.Shelf

def flatI (xs : List In) : List Value := xs.flatMap In.cs
theorem flatI_len (xs : List In) : (flatI xs).length = xs.length * 6 := by
  unfold flatI
  induction xs with
  | nil => rfl
  | cons x r ih => simp only [List.flatMap_cons, List.length_append, ih, List.length_cons]; simp only [In.cs, List.length_cons, List.length_nil]; omega
theorem flatI_at {xs : List In} {j : Nat} {u : Value} (h : (flatI xs)[j]? = some u) : j / 6 < xs.length ∧ (xs[j / 6]!).cs[j % 6]? = some u := by
  have hl : j < (flatI xs).length := by
    rcases Nat.lt_or_ge j (flatI xs).length with h' | h'
    · exact h'
    · rw [List.getElem?_eq_none h'] at h; cases h
  rw [flatI_len] at hl
  have h1 : j / 6 < xs.length := by omega
  refine ⟨h1, ?_⟩
  have h2 := flat_get In.cs 6 (fun _ => rfl) xs (j / 6) (j % 6) h1 (by omega)
  rw [show j / 6 * 6 + j % 6 = j by omega] at h2
  rw [← h2]; exact h
theorem flatI_of {xs : List In} {j i : Nat} {u : Value} (hj : j < xs.length) (hi : i < 6) (h : (xs[j]!).cs[i]? = some u) : (flatI xs)[j * 6 + i]? = some u :=
  (flat_get In.cs 6 (fun _ => rfl) xs j i hj hi).trans h
theorem flatI_one (xs : List In) : ∀ u ∈ flatI xs, u.oneCell' = true := by
  intro u hu
  unfold flatI at hu
  obtain ⟨x, _, hx⟩ := List.mem_flatMap.1 hu
  simp only [In.cs, List.mem_cons, List.not_mem_nil, or_false] at hx
  rcases hx with rfl | rfl | rfl | rfl | rfl | rfl <;> rfl
theorem infoIns : (Tryz.prog.info? 66).map (fun i => (i.zero, i.size, i.bytes)) = some (some (.agg #[.int .i64 0, .int .i64 0, .int .i64 0, .int .i64 0, .int .i64 0, .int .u64 0]), 6, 48) := by kernel_rfl
theorem addr_add (g o k : Nat) : (⟨g, o, none⟩ : Addr).add k = ⟨g, o + k, none⟩ := by
  unfold Addr.add
  split
  · rename_i h; rw [h, Nat.add_zero]
  · rfl
theorem own_some {w : World} {base e size n : Nat} {v : Value} {xs : List Value} (h : w.ownsRow base e size v n xs) (h0 : 0 < n) : ∃ g cap, v = .slice (some ⟨g, 0, none⟩) n cap := by
  rcases h.2 with ⟨_, h1⟩ | ⟨g, cap, cur, rfl, _⟩
  · omega
  · exact ⟨g, cap, rfl⟩
theorem own_cdn {w : World} {base B : Nat} {v : Value} {xs : List In} (h : w.ownsRow base 66 6 v xs.length (flatI xs)) (h0 : 0 < xs.length) (hB : v.ownBlock ≠ some B) : Cdn w v xs B := by
  rcases h.2 with ⟨_, h1⟩ | ⟨g, cap, cur, rfl, hg, hh, _⟩
  · omega
  · refine ⟨g, 0, cap, rfl, lt_of_block hh, fun e => hB (by rw [← e]; rfl), fun j hj i u hi => ?_⟩
    have hi6 : i < 6 := by
      rcases Nat.lt_or_ge i 6 with h' | h'
      · exact h'
      · rw [List.getElem?_eq_none (by simpa [In.cs] using h')] at hi; cases hi
    have := h.cells (g := g) rfl (j * 6 + i) u (flatI_of hj hi6 hi)
    rw [addr_add] at this
    rw [Nat.add_assoc]
    exact this
theorem Cd.drew {w : World} {v : Value} {xs : List In} (h : Cd w v xs) : Cd w.drew v xs := ⟨h.form⟩
set_option maxRecDepth 20000 in
set_option maxHeartbeats 1000000 in
theorem cloneI {w : World} {v : Value} {xs : List In} (h : Cd w v xs) (h0 : 0 < xs.length) (h64 : xs.length ≤ 64) :
    Calls Tryz.prog 31 #[v] w fun e w' => ∃ v', e = .returned v' ∧ w'.ownsRow w.heap.size 66 6 v' xs.length (flatI xs) ∧ Below w.heap.size w w' := by
  obtain ⟨i0, hi0, hz0, hz1, hz2⟩ := info_parts infoIns
  obtain ⟨p, cap, rfl, h2⟩ := h
  obtain ⟨g, off, rfl, hg, hc⟩ := h2 h0
  have he : ∀ w : World, (binOp .eql 22 (.slice (some ⟨g, off, none⟩) xs.length cap) (.slice none 0 0)).run Tryz.prog w = .ok (.bool false) w := fun _ => by kernel_rfl
  have HC : Hid (∀ j u, (flatI xs)[j]? = some u → w.cell? ((⟨g, off, none⟩ : Addr).add j) = some u) := fun j u hu => by
    rw [addr_add]
    obtain ⟨h1, h3⟩ := flatI_at hu
    have := hc (j / 6) h1 (j % 6) u h3
    rwa [show off + j / 6 * 6 + j % 6 = off + j by omega] at this
  clear hc h2
  go_enter Tryz.func31, Tryz.ntmps31
  go_wp2_with (at_builtin; refine wpList_append_own _ rfl _ _ 22 rfl w.heap.size 66 i0 (.agg #[.int .i64 0, .int .i64 0, .int .i64 0, .int .i64 0, .int .i64 0, .int .u64 0]) 6 48 Tryz.underlying22 hi0 hz0 hz1 hz2 rfl (by decide) (.slice (some ⟨w.heap.size, 0, none⟩) 0 0) 0 [] rfl (World.ownsRow_made w #[] 0 (Nat.le_refl _) (by decide) rfl) ⟨g, off, none⟩ xs.length cap (flatI xs) rfl (flatI_len xs) (fun j u hu => Lib.cell?_alloc_some _ (HC.out j u hu)) (flatI_one xs) (by unfold maxLen; omega) (by omega) (by rw [World.size_alloc]; omega) ?_; intro v' w1 hown hgrow hnil)
  go_ret
  rw [Nat.zero_add, List.nil_append] at hown
  exact ⟨_, rfl, hown, ((Below.refl _ w).alloc (Nat.le_refl _) _).grown hgrow (by rw [World.size_alloc]; omega) (fun k hk => by simp only [Value.ownBlock] at hk; injection hk with hk; omega)⟩
set_option maxRecDepth 20000 in
set_option maxHeartbeats 2000000 in
theorem new_ok {w : World} {v : Value} {fuel : Nat} {xs : List In} (hx : ∀ x ∈ xs, x.Fits) (h : Cd w v xs) (hc : Pg.checkE fuel xs = (0, 0)) (h0 : 0 < xs.length) (h64 : xs.length ≤ 64) :
    Calls Tryz.prog 9 #[.agg #[.int .i64 (fuel : Int), v]] w fun e w' => ∃ B v', e = .returned (.tuple #[.pointer (some ⟨B, 0, none⟩), .int .i64 0]) ∧ Mb w' B Im.m0 v' fuel ∧ Cdn w' v' xs B ∧ w.heap.size ≤ B ∧ Below w.heap.size w w' := by
  have HC := hide (fun w1 h1 => check_any fuel xs (fun x hm => (hx x hm).k) v w1 h1)
  rw [hc] at HC
  have HCd := hide h
  have HCl := hide (fun w1 (h1 : Cd w1 v xs) => cloneI h1 h0 h64)
  obtain ⟨p, cap, rfl, -⟩ := h
  clear hc hx
  go_enter Tryz.func9, Tryz.ntmps9
  go_wp2_with fail
  refine (HC.out _ (HCd.out.below (below_one w _) (Nat.le_refl _))).mono ?_
  rintro e w1 ⟨rfl, hb1⟩
  have HB1 : Hid (Below w.heap.size w w1) := (below_one w _).trans (hb1.mono (by simp))
  have hp : w1.heap[w.heap.size]? = some (.cells #[.int .i64 (fuel : Int), .slice p xs.length cap] 24 (0, 0)) := (hb1.block w.heap.size (by simp)).trans (heap_alloc_new w _)
  have p0 : w1.cell? ⟨w.heap.size, 0, none⟩ = some (.int .i64 (fuel : Int)) := by simp [World.cell?, hp]
  have p1 : w1.cell? ⟨w.heap.size, 1, none⟩ = some (.slice p xs.length cap) := by simp [World.cell?, hp]
  have hpl : w.heap.size < w1.heap.size := lt_of_block hp
  clear hb1
  go_wp2_with fail
  go_region_held3 (fun w' => w'.cell? ⟨w.heap.size, 0, none⟩ = some (.int .i64 (fuel : Int)) ∧ w'.cell? ⟨w.heap.size, 1, none⟩ = some (.slice p xs.length cap)) (first | exact ⟨q0, q1⟩ | exact ⟨p0, p1⟩ | exact ⟨Lib.cell?_alloc_some _ q0, Lib.cell?_alloc_some _ q1⟩ | go_keep) (first | (go_at_call 31; refine (HCl.out _ (HCd.out.below HB1.out (Nat.le_refl _)).drew).mono ?_; rintro e w2 ⟨v2, rfl, ho2, hb2'⟩; obtain ⟨g2, cap2, rfl⟩ := own_some ho2 h0; have hb2 := below_undrew hb2'; have q0 : w2.cell? ⟨w.heap.size, 0, none⟩ = some (.int .i64 (fuel : Int)) := (hb2.cell (p := ⟨w.heap.size, 0, none⟩) hpl).trans p0; have q1 : w2.cell? ⟨w.heap.size, 1, none⟩ = some (.slice p xs.length cap) := (hb2.cell (p := ⟨w.heap.size, 1, none⟩) hpl).trans p1))
  go_wp2_with fail
  go_ret2
  have hg2 : g2 < w2.heap.size := (ho2.lt g2 rfl).2
  have hB2 : Below w.heap.size w w2 := HB1.out.trans (hb2.mono HB1.out.size)
  exact ⟨w2.heap.size, _, rfl, ⟨heap_alloc_new w2 _, ⟨rfl, rfl, rfl⟩⟩, (own_cdn ho2 h0 (by simp [Value.ownBlock]; omega)).grown (grown_one w2 _ _), hB2.size, hB2.trans ((below_one w2 _).mono hB2.size)⟩
set_option maxRecDepth 20000 in
set_option maxHeartbeats 2000000 in
theorem new_no {w : World} {v : Value} {fuel : Int} {xs : List In} (hx : ∀ x ∈ xs, x.Fits) (h : Cd w v xs) (hc : (Pg.checkE fuel xs).1 ≠ 0) :
    Calls Tryz.prog 9 #[.agg #[.int .i64 fuel, v]] w fun e w' => e = .returned (.tuple #[.pointer none, .int .i64 (Pg.checkE fuel xs).1]) ∧ Below w.heap.size w w' := by
  have HC := hide (fun w1 h1 => check_any fuel xs (fun x hm => (hx x hm).k) v w1 h1)
  have HCd := hide h
  obtain ⟨p, cap, rfl, -⟩ := h
  clear hx
  generalize Pg.checkE fuel xs = E at *
  have hb : (E.1 != 0) = true := by rw [bne_iff_ne]; exact hc
  clear hc
  go_enter Tryz.func9, Tryz.ntmps9
  go_wp2_with fail
  refine (HC.out _ (HCd.out.below (below_one w _) (Nat.le_refl _))).mono ?_
  rintro e w1 ⟨rfl, hb1⟩
  go_wp2_with fail
  go_ret2
  exact ⟨rfl, (below_one w _).trans (hb1.mono (by simp))⟩
namespace Im
def resC (m : Mc) : Nat := if m.ov = true ∧ m.en = 0 then 0 else m.en
def resB (m : Mc) : Nat := if m.ov = true ∧ m.en = 0 then m.R[0]! else 0
end Im
set_option maxHeartbeats 400000 in
theorem over_any {w : World} {B fuel : Nat} {m : Mc} {v : Value} (h : Mb w B m v fuel) : Calls Tryz.prog 20 #[.pointer (some ⟨B, 0, none⟩)] w fun e w' => e = .returned (.bool m.ov) ∧ w' = w := by
  have c := h.cell (h.l8.g_ov v fuel)
  go_enter Tryz.func20, Tryz.ntmps20
  go_wp2
  go_ret
  exact ⟨rfl, rfl⟩
set_option maxHeartbeats 400000 in
theorem done_any {w : World} {B fuel : Nat} {m : Mc} {v : Value} (h : Mb w B m v fuel) : Calls Tryz.prog 21 #[.pointer (some ⟨B, 0, none⟩)] w fun e w' => e = .returned (.int .i64 (m.dn : Int)) ∧ w' = w := by
  have c := h.cell (h.l8.g_dn v fuel)
  go_enter Tryz.func21, Tryz.ntmps21
  go_wp2
  go_ret
  exact ⟨rfl, rfl⟩
set_option maxHeartbeats 400000 in
theorem place_any {w : World} {B fuel : Nat} {m : Mc} {v : Value} (h : Mb w B m v fuel) : Calls Tryz.prog 28 #[.pointer (some ⟨B, 0, none⟩)] w fun e w' => e = .returned (.int .i64 (m.pl : Int)) ∧ w' = w := by
  have c := h.cell (h.l8.g_pl v fuel)
  go_enter Tryz.func28, Tryz.ntmps28
  go_wp2
  go_ret
  exact ⟨rfl, rfl⟩
set_option maxHeartbeats 400000 in
theorem reg_any {w : World} {B fuel : Nat} {m : Mc} {v : Value} (h : Mb w B m v fuel) (i : Nat) (hi : i < 8) : Calls Tryz.prog 24 #[.pointer (some ⟨B, 0, none⟩), .int .i64 (i : Int)] w fun e w' => e = .returned (.int .u64 (m.R[i]! : Int)) ∧ w' = w := by
  have c := h.cell (h.l8.gR v fuel i hi)
  generalize m.R[i]! = r at *
  have h1 : (i : Int) < 8 := by omega
  have h2 : ¬ (i : Int) < 0 := by omega
  have h3 : ¬ (8 : Int) ≤ (i : Int) := by omega
  go_enter Tryz.func24, Tryz.ntmps24
  go_wp2
  go_ret
  exact ⟨rfl, rfl⟩
set_option maxHeartbeats 400000 in
theorem result_any {w : World} {B fuel : Nat} {m : Mc} {v : Value} (h : Mb w B m v fuel) : Calls Tryz.prog 25 #[.pointer (some ⟨B, 0, none⟩)] w fun e w' => e = .returned (.agg #[.int .i64 (Im.resC m : Int), .int .u64 (Im.resB m : Int)]) ∧ Below w.heap.size w w' := by
  have c32 := h.cell (h.l8.g_ov v fuel)
  have c33 := h.cell (h.l8.g_en v fuel)
  have c3 := h.cell (h.l8.gR v fuel 0 (by decide))
  have hlt := h.lt
  unfold Im.resC Im.resB
  by_cases ho : m.ov = true
  · rw [ho] at c32
    by_cases he : m.en = 0
    · rw [if_pos ⟨ho, he⟩, if_pos ⟨ho, he⟩]
      rw [he] at c33
      generalize m.R[0]! = r at *
      go_enter Tryz.func25, Tryz.ntmps25
      go_wp2
      exact bodyPost_ret (results_cell_row (p := 2) (ty := 45) rfl _ _ w.heap.size 45 _ (0, 0) _ rfl (heap_alloc_new w _) Tryz.underlying45 rfl (by kernel_rfl)) rfl ⟨rfl, below_one w _⟩
    · rw [if_neg (fun k => he k.2), if_neg (fun k => he k.2)]
      have hb : ((m.en : Int) == 0) = false := by rw [beq_eq_false_iff_ne]; omega
      clear he
      generalize m.en = q at *
      go_enter Tryz.func25, Tryz.ntmps25
      go_wp2
      exact bodyPost_ret (results_cell_row (p := 2) (ty := 45) rfl _ _ w.heap.size 45 _ (0, 0) _ rfl (heap_alloc_new w _) Tryz.underlying45 rfl (by kernel_rfl)) rfl ⟨rfl, below_one w _⟩
  · rw [if_neg (fun k => ho k.1), if_neg (fun k => ho k.1)]
    rw [Bool.not_eq_true] at ho
    rw [ho] at c32
    generalize m.en = q at *
    go_enter Tryz.func25, Tryz.ntmps25
    go_wp2
    exact bodyPost_ret (results_cell_row (p := 2) (ty := 45) rfl _ _ w.heap.size 45 _ (0, 0) _ rfl (heap_alloc_new w _) Tryz.underlying45 rfl (by kernel_rfl)) rfl ⟨rfl, below_one w _⟩
end Go.Proofs.YthjngodkpldpfaaGreatDoor
end

section
namespace Go.Proofs.YthjngodkpldpfaaGreatDoor
open Go.RowKit Go.Shelf

namespace Im
/-- one round of a run: the machine, what was told -/
def nxt (xs : List In) (fuel : Nat) (s : Mc × List (Nat × ByteArray)) : Mc × List (Nat × ByteArray) :=
  if s.1.ov = true then s else ((stp xs fuel s.1).1, if (stp xs fuel s.1).2.1 = 0 then s.2 else s.2 ++ [(stp xs fuel s.1).2])
def itr (xs : List In) (fuel : Nat) (m : Mc) : Nat → Mc × List (Nat × ByteArray)
  | 0 => (m, [])
  | k + 1 => nxt xs fuel (itr xs fuel m k)
/-- acts as cells -/
def acs (l : List (Nat × ByteArray)) : List Value := l.flatMap fun a => [.int .i64 (a.1 : Int), .string a.2]
end Im
theorem itr_over {xs : List In} {fuel : Nat} {m : Mc} {k : Nat} (h : (Im.itr xs fuel m k).1.ov = true) : ∀ j, Im.itr xs fuel m (k + j) = Im.itr xs fuel m k
  | 0 => rfl
  | j + 1 => by
    show Im.nxt xs fuel (Im.itr xs fuel m (k + j)) = _
    rw [itr_over h j]
    unfold Im.nxt
    rw [if_pos h]
theorem itr_ok {xs : List In} {fuel : Nat} {m : Mc} (h : m.Ok xs.length fuel) (g : ∀ x ∈ xs, x.Good xs.length) : ∀ k, (Im.itr xs fuel m k).1.Ok xs.length fuel
  | 0 => h
  | k + 1 => by
    have hi := itr_ok h g k
    show (Im.nxt xs fuel (Im.itr xs fuel m k)).1.Ok _ _
    unfold Im.nxt
    split
    · exact hi
    · rename_i ho; exact stp_ok hi (by simpa using ho) g
theorem itr_dn {xs : List In} {fuel : Nat} {m : Mc} (h : m.Ok xs.length fuel) (g : ∀ x ∈ xs, x.Good xs.length) : ∀ k, (Im.itr xs fuel m k).1.ov = false → (Im.itr xs fuel m k).1.dn = m.dn + k
  | 0, _ => rfl
  | k + 1, ho => by
    by_cases h1 : (Im.itr xs fuel m k).1.ov = true
    · have h2 := itr_over h1 1
      rw [h2, h1] at ho; cases ho
    · show (Im.nxt xs fuel (Im.itr xs fuel m k)).1.dn = _
      unfold Im.nxt
      rw [if_neg h1]
      show (Im.stp xs fuel _).1.dn = _
      rw [stp_dn, itr_dn h g k (by simpa using h1)]; omega
theorem itr_len (xs : List In) (fuel : Nat) (m : Mc) : ∀ k, (Im.itr xs fuel m k).2.length ≤ k
  | 0 => Nat.le_refl _
  | k + 1 => by
    have hi := itr_len xs fuel m k
    show (Im.nxt xs fuel (Im.itr xs fuel m k)).2.length ≤ _
    unfold Im.nxt
    split
    · omega
    · dsimp only
      split
      · omega
      · simp; omega
theorem acs_len (l : List (Nat × ByteArray)) : (Im.acs l).length = l.length * 2 := by
  unfold Im.acs
  induction l with
  | nil => rfl
  | cons x r ih => simp only [List.flatMap_cons, List.length_append, ih, List.length_cons, List.length_nil]; omega
theorem acs_app (l : List (Nat × ByteArray)) (a : Nat × ByteArray) : Im.acs (l ++ [a]) = Im.acs l ++ [.int .i64 (a.1 : Int), .string a.2] := by
  unfold Im.acs; simp
theorem infoAct : (Tryz.prog.info? 58).map (fun i => (i.zero, i.size, i.bytes)) = some (some (.agg #[.int .i64 0, .string ⟨#[]⟩]), 2, 24) := by kernel_rfl
theorem rown_grown {w w' : World} {base e size n : Nat} {v : Value} {xs : List Value} {r : Option Nat} (h : w.ownsRow base e size v n xs) (g : w.grownBy w' r) (hn : ∀ k, v.ownBlock = some k → some k ≠ r) : w'.ownsRow base e size v n xs := by
  refine ⟨h.1, ?_⟩
  rcases h.2 with h1 | ⟨k, cap, cur, rfl, hk, hh, h2⟩
  · exact .inl h1
  · exact .inr ⟨k, cap, cur, rfl, hk, (g.block k (lt_of_block hh) (hn k rfl)).trans hh, h2⟩
theorem rown_slice {w : World} {base e size n : Nat} {v : Value} {xs : List Value} (h : w.ownsRow base e size v n xs) : ∃ ad cap, v = .slice ad n cap := by
  rcases h.2 with ⟨h1, rfl⟩ | ⟨g, cap, cur, rfl, _⟩
  · exact ⟨_, _, h1⟩
  · exact ⟨_, _, rfl⟩
theorem grown_low {a b c : World} {B : Nat} {r : Option Nat} (h : a.grownBy b (some B)) (k : b.grownBy c r) (hr : ∀ g, r = some g → a.heap.size ≤ g) : a.grownBy c (some B) :=
  ⟨k.os.trans h.os, k.tape.trans h.tape, k.output.trans h.output, Nat.le_trans h.size k.size, fun i hi hn => (k.block i (Nat.lt_of_lt_of_le hi h.size) (fun e => absurd (hr i e.symm) (by omega))).trans (h.block i hi hn)⟩
set_option maxRecDepth 20000 in
set_option maxHeartbeats 4000000 in
theorem run_any {w : World} {B fuel : Nat} {m : Mc} {v : Value} {xs : List In} (h : Mb w B m v fuel) (hk : m.Ok xs.length fuel) (hg : ∀ x ∈ xs, x.Good xs.length) (hC : Cdn w v xs B) (hE : Env w B) (hm : xs.length < 1000000) (hf : fuel < 1000000) (most : Int) (hmo : most ≤ 9223372036854775807) :
    Calls Tryz.prog 22 #[.pointer (some ⟨B, 0, none⟩), .int .i64 most] w fun e w' => ∃ u, e = .returned u ∧ Mb w' B (Im.itr xs fuel m most.toNat).1 v fuel ∧ w'.ownsRow w.heap.size 58 2 u (Im.itr xs fuel m most.toNat).2.length (Im.acs (Im.itr xs fuel m most.toNat).2) ∧ w.grownBy w' (some B) := by
  have hlt := h.lt
  have HB := hide h
  have HK := hide hk
  have HG := hide hg
  have HC := hide hC
  have HE := hide hE
  clear hk hg hC hE
  go_enter Tryz.func22, Tryz.ntmps22
  go_wp2_with fail
  go_loopw [5, 6] (fun u t wr => ∃ k : Nat, t = .int .i64 (k : Int) ∧ k ≤ most.toNat ∧ Hid (Mb wr B (Im.itr xs fuel m k).1 v fuel) ∧ Hid (wr.ownsRow w.heap.size 58 2 u (Im.itr xs fuel m k).2.length (Im.acs (Im.itr xs fuel m k).2)) ∧ Hid (w.grownBy wr (some B))) (fun _ t _ => most.toNat - (intOf t).toNat)
  case atStart => exact ⟨0, rfl, Nat.zero_le _, HB, World.ownsRow_nil _ _ _ _, grown_none w 0 _⟩
  case round =>
    obtain ⟨k, rfl, hkm, HBk, HOk, HGk⟩ := hrel
    have c32 := HBk.out.cell (HBk.out.l8.g_ov v fuel)
    have hltk := HBk.out.lt
    by_cases hkl : (k : Int) < most
    · by_cases ho : (Im.itr xs fuel m k).1.ov = true
      · rw [ho] at c32
        go_wp2_with fail
        go_ret
        have e1 : Im.itr xs fuel m most.toNat = Im.itr xs fuel m k := by
          obtain ⟨j, hj⟩ : ∃ j, most.toNat = k + j := ⟨most.toNat - k, by omega⟩
          rw [hj]; exact itr_over ho j
        rw [e1]
        exact ⟨_, rfl, HBk.out, HOk.out, HGk.out⟩
      · rw [Bool.not_eq_true] at ho
        rw [ho] at c32
        have hok := itr_ok HK.out HG.out k
        have hkf : k < fuel := by have h1 := (hok.live ho).2.1; rw [itr_dn HK.out HG.out k ho] at h1; omega
        have hlen := itr_len xs fuel m k
        have HS := hide (step_live HBk.out ho hok HG.out (HC.out.grown HGk.out) (HE.out.grown HGk.out) hm hf)
        have hnx : Im.itr xs fuel m (k + 1) = ((Im.stp xs fuel (Im.itr xs fuel m k).1).1, if (Im.stp xs fuel (Im.itr xs fuel m k).1).2.1 = 0 then (Im.itr xs fuel m k).2 else (Im.itr xs fuel m k).2 ++ [(Im.stp xs fuel (Im.itr xs fuel m k).1).2]) := by
          show Im.nxt xs fuel _ = _
          unfold Im.nxt
          rw [if_neg (by rw [ho]; decide)]
        have HNX := hide hnx
        clear hnx
        generalize Im.itr xs fuel m k = I at *
        generalize Im.stp xs fuel I.1 = st at *
        have hkw : (k : Int) + 1 ≤ 9223372036854775807 := by omega
        obtain ⟨adu, capu, rfl⟩ := rown_slice HOk.out
        go_wp2_with fail
        refine HS.out.mono ?_
        rintro e w2 ⟨rfl, hm2, hg2⟩
        have hap : ∀ g, (Value.slice adu I.2.length capu).ownBlock = some g → w.heap.size ≤ g := fun g e => (HOk.out.lt g e).1
        have HO2 := hide (rown_grown HOk.out hg2 (fun g e e2 => by have := hap g e; injection e2 with e2; omega))
        have HG2 := hide (grown_trans HGk.out hg2)
        have HM2 := hide hm2
        clear hm2 hg2 c32 HS
        by_cases hz : st.2.1 = 0
        · have hzi : (st.2.1 : Int) = 0 := by omega
          have HN2 : Hid (Im.itr xs fuel m (k + 1) = (st.1, I.2)) := by have := HNX.out; rw [if_pos hz] at this; exact this
          generalize (st.2.1 : Int) = z at *
          subst hzi
          go_wp2_with fail
          go_roundw
          case rel => exact ⟨k + 1, by go_num, by omega, by rw [HN2.out]; exact HM2.out.grown (grown_one w2 _ none) (by simp), by rw [HN2.out]; exact rown_grown HO2.out (grown_one w2 _ none) (fun _ _ => by simp), grown_trans HG2.out (grown_one w2 _ _)⟩
          case measure => simp [intOf]; omega
        · have HN2 : Hid (Im.itr xs fuel m (k + 1) = (st.1, I.2 ++ [st.2])) := by have := HNX.out; rw [if_neg hz] at this; exact this
          have hzb : ((st.2.1 : Int) != 0) = true := by rw [bne_iff_ne]; omega
          obtain ⟨i0, hi0, hz0, hz1, hz2⟩ := info_parts infoAct
          have HO3 : Hid ((w2.alloc (.cells #[.int .i64 (st.2.1 : Int), .string st.2.2] 58)).ownsRow w.heap.size 58 2 (.slice adu I.2.length capu) I.2.length (Im.acs I.2)) := rown_grown HO2.out (grown_one w2 _ none) (fun _ _ => by simp)
          have hs2 := HG2.out.size
          go_wp2_with (at_builtin; refine wpList_append_lies _ rfl (.tmp 29) (.tmp 31) 55 rfl w.heap.size 58 i0 (.agg #[.int .i64 0, .string ⟨#[]⟩]) 2 24 Tryz.underlying55 hi0 hz0 hz1 hz2 rfl (by decide) (.slice adu I.2.length capu) I.2.length (Im.acs I.2) rfl (rown_grown HO3.out (grown_one _ (.cells #[.int .i64 (st.2.1 : Int), .string st.2.2] 58) none) (fun _ _ => by simp)) ⟨w2.heap.size + 1, 0, none⟩ 1 1 [.int .i64 (st.2.1 : Int), .string st.2.2] rfl (by simp) (World.news_of_block (cs := #[.int .i64 (st.2.1 : Int), .string st.2.2]) (t := 58) (fr := (0, 0)) (by have h1 := heap_alloc_new (w2.alloc (.cells #[.int .i64 (st.2.1 : Int), .string st.2.2] 58)) (.cells #[.int .i64 (st.2.1 : Int), .string st.2.2] 58); rw [World.size_alloc] at h1; exact h1)) (by simp [Value.oneCell']) (by decide) (by unfold maxLen; omega) (by omega) (by rw [World.size_alloc, World.size_alloc]; omega) (w2.heap.size + 2) (by rw [World.size_alloc, World.size_alloc]) ?_; intro g cap' w7 hown hgrow hat hlt7)
          have hgg := grown_low (grown_trans HG2.out (grown_trans (grown_one w2 (.cells #[.int .i64 (st.2.1 : Int), .string st.2.2] 58) _) (grown_one _ (.cells #[.int .i64 (st.2.1 : Int), .string st.2.2] 58) _))) hgrow hap
          have hm7 := (HM2.out.grown (grown_trans (grown_one w2 (.cells #[.int .i64 (st.2.1 : Int), .string st.2.2] 58) none) (grown_one _ (.cells #[.int .i64 (st.2.1 : Int), .string st.2.2] 58) none)) (by simp)).grown hgrow (fun e => by have := hap B e.symm; omega)
          go_roundw
          case rel => exact ⟨k + 1, by go_num, by omega, by rw [HN2.out]; exact hm7, by rw [HN2.out]; show World.ownsRow _ _ _ _ _ (I.2 ++ [st.2]).length (Im.acs (I.2 ++ [st.2])); rw [acs_app, List.length_append]; exact hown, hgg⟩
          case measure => simp [intOf]; omega
    · have hki : ¬ (k : Int) < most := hkl
      obtain rfl : k = most.toNat := by omega
      go_wp2_with fail
      go_ret
      exact ⟨_, rfl, HBk.out, HOk.out, HGk.out⟩
end Go.Proofs.YthjngodkpldpfaaGreatDoor
end
