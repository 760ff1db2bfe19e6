import Derived.Test.YtpgehocadohkiaaGreatDoorMgBF
import Derived.Deep.AppendLies
import Derived.Lib.SmallJoins

section
namespace Go.Proofs.YtpgehocadohkiaaGreatDoor
open Go.RowKit Go.Shelf

def flatI (xs : List In) : List Value := xs.flatMap In.cs
theorem flatI_len (xs : List In) : (flatI xs).length = xs.length * 6 := by
  unfold flatI
  induction xs with
  | nil => rfl
  | cons x r ih => simp only [List.flatMap_cons, List.length_append, ih, List.length_cons]; simp only [In.cs, List.length_cons, List.length_nil]; omega
theorem flatI_at {xs : List In} {j : Nat} {u : Value} (h : (flatI xs)[j]? = some u) : j / 6 < xs.length ∧ (xs[j / 6]!).cs[j % 6]? = some u := by
  have hl : j < (flatI xs).length := by
    rcases Nat.lt_or_ge j (flatI xs).length with h' | h'
    · exact h'
    · rw [List.getElem?_eq_none h'] at h; cases h
  rw [flatI_len] at hl
  have h1 : j / 6 < xs.length := by omega
  refine ⟨h1, ?_⟩
  have h2 := flat_get In.cs 6 (fun _ => rfl) xs (j / 6) (j % 6) h1 (by omega)
  rw [show j / 6 * 6 + j % 6 = j by omega] at h2
  rw [← h2]; exact h
theorem flatI_of {xs : List In} {j i : Nat} {u : Value} (hj : j < xs.length) (hi : i < 6) (h : (xs[j]!).cs[i]? = some u) : (flatI xs)[j * 6 + i]? = some u :=
  (flat_get In.cs 6 (fun _ => rfl) xs j i hj hi).trans h
theorem flatI_one (xs : List In) : ∀ u ∈ flatI xs, u.oneCell' = true := by
  intro u hu
  unfold flatI at hu
  obtain ⟨x, _, hx⟩ := List.mem_flatMap.1 hu
  simp only [In.cs, List.mem_cons, List.not_mem_nil, or_false] at hx
  rcases hx with rfl | rfl | rfl | rfl | rfl | rfl <;> rfl
theorem infoIns : (Tryz.prog.info? 71).map (fun i => (i.zero, i.size, i.bytes)) = some (some (.agg #[.int .i64 0, .int .i64 0, .int .i64 0, .int .i64 0, .int .i64 0, .int .u64 0]), 6, 48) := by kernel_rfl
theorem addr_add (g o k : Nat) : (⟨g, o, none⟩ : Addr).add k = ⟨g, o + k, none⟩ := by
  unfold Addr.add
  split
  · rename_i h; rw [h, Nat.add_zero]
  · rfl
theorem own_some {w : World} {base e size n : Nat} {v : Value} {xs : List Value} (h : w.ownsRow base e size v n xs) (h0 : 0 < n) : ∃ g cap, v = .slice (some ⟨g, 0, none⟩) n cap := by
  rcases h.2 with ⟨_, h1⟩ | ⟨g, cap, cur, rfl, _⟩
  · omega
  · exact ⟨g, cap, rfl⟩
theorem own_cdn {w : World} {base B : Nat} {v : Value} {xs : List In} (h : w.ownsRow base 71 6 v xs.length (flatI xs)) (h0 : 0 < xs.length) (hB : v.ownBlock ≠ some B) : Cdn w v xs B := by
  rcases h.2 with ⟨_, h1⟩ | ⟨g, cap, cur, rfl, hg, hh, _⟩
  · omega
  · refine ⟨g, 0, cap, rfl, lt_of_block hh, fun e => hB (by rw [← e]; rfl), fun j hj i u hi => ?_⟩
    have hi6 : i < 6 := by
      rcases Nat.lt_or_ge i 6 with h' | h'
      · exact h'
      · rw [List.getElem?_eq_none (by simpa [In.cs] using h')] at hi; cases hi
    have := h.cells (g := g) rfl (j * 6 + i) u (flatI_of hj hi6 hi)
    rw [addr_add] at this
    rw [Nat.add_assoc]
    exact this
theorem Cd.drew {w : World} {v : Value} {xs : List In} (h : Cd w v xs) : Cd w.drew v xs := ⟨h.form⟩
set_option maxRecDepth 20000 in
set_option maxHeartbeats 1000000 in
theorem cloneI {w : World} {v : Value} {xs : List In} (h : Cd w v xs) (h0 : 0 < xs.length) (h64 : xs.length ≤ 64) :
    Calls Tryz.prog 35 #[v] w fun e w' => ∃ v', e = .returned v' ∧ w'.ownsRow w.heap.size 71 6 v' xs.length (flatI xs) ∧ Below w.heap.size w w' := by
  obtain ⟨i0, hi0, hz0, hz1, hz2⟩ := info_parts infoIns
  obtain ⟨p, cap, rfl, h2⟩ := h
  obtain ⟨g, off, rfl, hg, hc⟩ := h2 h0
  have he : ∀ w : World, (binOp .eql 22 (.slice (some ⟨g, off, none⟩) xs.length cap) (.slice none 0 0)).run Tryz.prog w = .ok (.bool false) w := fun _ => by kernel_rfl
  have HC : Hid (∀ j u, (flatI xs)[j]? = some u → w.cell? ((⟨g, off, none⟩ : Addr).add j) = some u) := fun j u hu => by
    rw [addr_add]
    obtain ⟨h1, h3⟩ := flatI_at hu
    have := hc (j / 6) h1 (j % 6) u h3
    rwa [show off + j / 6 * 6 + j % 6 = off + j by omega] at this
  clear hc h2
  go_enter Tryz.func35, Tryz.ntmps35
  go_wp2_with (at_builtin; refine wpList_append_own _ rfl _ _ 22 rfl w.heap.size 71 i0 (.agg #[.int .i64 0, .int .i64 0, .int .i64 0, .int .i64 0, .int .i64 0, .int .u64 0]) 6 48 Tryz.underlying22 hi0 hz0 hz1 hz2 rfl (by decide) (.slice (some ⟨w.heap.size, 0, none⟩) 0 0) 0 [] rfl (World.ownsRow_made w #[] 0 (Nat.le_refl _) (by decide) rfl) ⟨g, off, none⟩ xs.length cap (flatI xs) rfl (flatI_len xs) (fun j u hu => Lib.cell?_alloc_some _ (HC.out j u hu)) (flatI_one xs) (by unfold maxLen; omega) (by omega) (by rw [World.size_alloc]; omega) ?_; intro v' w1 hown hgrow hnil)
  go_ret
  rw [Nat.zero_add, List.nil_append] at hown
  exact ⟨_, rfl, hown, ((Below.refl _ w).alloc (Nat.le_refl _) _).grown hgrow (by rw [World.size_alloc]; omega) (fun k hk => by simp only [Value.ownBlock] at hk; injection hk with hk; omega)⟩
set_option maxRecDepth 20000 in
set_option maxHeartbeats 2000000 in
theorem new_ok {w : World} {v : Value} {fuel : Nat} {xs : List In} (hx : ∀ x ∈ xs, x.Fits) (h : Cd w v xs) (hc : Pg.checkE fuel xs = (0, 0)) (h0 : 0 < xs.length) (h64 : xs.length ≤ 64) :
    Calls Tryz.prog 13 #[.agg #[.int .i64 (fuel : Int), v]] w fun e w' => ∃ B v', e = .returned (.tuple #[.pointer (some ⟨B, 0, none⟩), .int .i64 0]) ∧ Mb w' B Im.m0 v' fuel ∧ Cdn w' v' xs B ∧ w.heap.size ≤ B ∧ Below w.heap.size w w' := by
  have HC := hide (fun w1 h1 => check_any fuel xs (fun x hm => (hx x hm).k) v w1 h1)
  rw [hc] at HC
  have HCd := hide h
  have HCl := hide (fun w1 (h1 : Cd w1 v xs) => cloneI h1 h0 h64)
  obtain ⟨p, cap, rfl, -⟩ := h
  clear hc hx
  go_enter Tryz.func13, Tryz.ntmps13
  go_wp2_with fail
  refine (HC.out _ (HCd.out.below (below_one w _) (Nat.le_refl _))).mono ?_
  rintro e w1 ⟨rfl, hb1⟩
  have HB1 : Hid (Below w.heap.size w w1) := (below_one w _).trans (hb1.mono (by simp))
  have hp : w1.heap[w.heap.size]? = some (.cells #[.int .i64 (fuel : Int), .slice p xs.length cap] 24 (0, 0)) := (hb1.block w.heap.size (by simp)).trans (heap_alloc_new w _)
  have p0 : w1.cell? ⟨w.heap.size, 0, none⟩ = some (.int .i64 (fuel : Int)) := by simp [World.cell?, hp]
  have p1 : w1.cell? ⟨w.heap.size, 1, none⟩ = some (.slice p xs.length cap) := by simp [World.cell?, hp]
  have hpl : w.heap.size < w1.heap.size := lt_of_block hp
  clear hb1
  go_wp2_with fail
  go_region_held3 (fun w' => w'.cell? ⟨w.heap.size, 0, none⟩ = some (.int .i64 (fuel : Int)) ∧ w'.cell? ⟨w.heap.size, 1, none⟩ = some (.slice p xs.length cap)) (first | exact ⟨q0, q1⟩ | exact ⟨p0, p1⟩ | exact ⟨Lib.cell?_alloc_some _ q0, Lib.cell?_alloc_some _ q1⟩ | go_keep) (first | (go_at_call 35; refine (HCl.out _ (HCd.out.below HB1.out (Nat.le_refl _)).drew).mono ?_; rintro e w2 ⟨v2, rfl, ho2, hb2'⟩; obtain ⟨g2, cap2, rfl⟩ := own_some ho2 h0; have hb2 := below_undrew hb2'; have q0 : w2.cell? ⟨w.heap.size, 0, none⟩ = some (.int .i64 (fuel : Int)) := (hb2.cell (p := ⟨w.heap.size, 0, none⟩) hpl).trans p0; have q1 : w2.cell? ⟨w.heap.size, 1, none⟩ = some (.slice p xs.length cap) := (hb2.cell (p := ⟨w.heap.size, 1, none⟩) hpl).trans p1))
  go_wp2_with fail
  go_ret2
  have hg2 : g2 < w2.heap.size := (ho2.lt g2 rfl).2
  have hB2 : Below w.heap.size w w2 := HB1.out.trans (hb2.mono HB1.out.size)
  exact ⟨w2.heap.size, _, rfl, ⟨heap_alloc_new w2 _, ⟨rfl, rfl, rfl⟩⟩, (own_cdn ho2 h0 (by simp [Value.ownBlock]; omega)).grown (i_grown_one w2 _ _), hB2.size, hB2.trans ((below_one w2 _).mono hB2.size)⟩
set_option maxRecDepth 20000 in
set_option maxHeartbeats 2000000 in
theorem new_no {w : World} {v : Value} {fuel : Int} {xs : List In} (hx : ∀ x ∈ xs, x.Fits) (h : Cd w v xs) (hc : (Pg.checkE fuel xs).1 ≠ 0) :
    Calls Tryz.prog 13 #[.agg #[.int .i64 fuel, v]] w fun e w' => e = .returned (.tuple #[.pointer none, .int .i64 (Pg.checkE fuel xs).1]) ∧ Below w.heap.size w w' := by
  have HC := hide (fun w1 h1 => check_any fuel xs (fun x hm => (hx x hm).k) v w1 h1)
  have HCd := hide h
  obtain ⟨p, cap, rfl, -⟩ := h
  clear hx
  generalize Pg.checkE fuel xs = E at *
  have hb : (E.1 != 0) = true := by rw [bne_iff_ne]; exact hc
  clear hc
  go_enter Tryz.func13, Tryz.ntmps13
  go_wp2_with fail
  refine (HC.out _ (HCd.out.below (below_one w _) (Nat.le_refl _))).mono ?_
  rintro e w1 ⟨rfl, hb1⟩
  go_wp2_with fail
  go_ret2
  exact ⟨rfl, (below_one w _).trans (hb1.mono (by simp))⟩
namespace Im
def resC (m : Mc) : Nat := if m.ov = true ∧ m.en = 0 then 0 else m.en
def resB (m : Mc) : Nat := if m.ov = true ∧ m.en = 0 then m.R[0]! else 0
end Im
set_option maxHeartbeats 400000 in
theorem done_any {w : World} {B fuel : Nat} {m : Mc} {v : Value} (h : Mb w B m v fuel) : Calls Tryz.prog 16 #[.pointer (some ⟨B, 0, none⟩)] w fun e w' => e = .returned (.int .i64 (m.dn : Int)) ∧ w' = w := by
  have c := h.cell (h.l8.g_dn v fuel)
  go_enter Tryz.func16, Tryz.ntmps16
  go_wp2
  go_ret
  exact ⟨rfl, rfl⟩
set_option maxHeartbeats 400000 in
theorem result_any {w : World} {B fuel : Nat} {m : Mc} {v : Value} (h : Mb w B m v fuel) : Calls Tryz.prog 15 #[.pointer (some ⟨B, 0, none⟩)] w fun e w' => e = .returned (.agg #[.int .i64 (Im.resC m : Int), .int .u64 (Im.resB m : Int)]) ∧ Below w.heap.size w w' := by
  have c32 := h.cell (h.l8.g_ov v fuel)
  have c33 := h.cell (h.l8.g_en v fuel)
  have c3 := h.cell (h.l8.gR v fuel 0 (by decide))
  have hlt := h.lt
  unfold Im.resC Im.resB
  by_cases ho : m.ov = true
  · rw [ho] at c32
    by_cases he : m.en = 0
    · rw [if_pos ⟨ho, he⟩, if_pos ⟨ho, he⟩]
      rw [he] at c33
      generalize m.R[0]! = r at *
      go_enter Tryz.func15, Tryz.ntmps15
      go_wp2
      exact bodyPost_ret (results_cell_row (p := 2) (ty := 29) rfl _ _ w.heap.size 29 _ (0, 0) _ rfl (heap_alloc_new w _) Tryz.underlying29 rfl (by kernel_rfl)) rfl ⟨rfl, below_one w _⟩
    · rw [if_neg (fun k => he k.2), if_neg (fun k => he k.2)]
      have hb : ((m.en : Int) == 0) = false := by rw [beq_eq_false_iff_ne]; omega
      clear he
      generalize m.en = q at *
      go_enter Tryz.func15, Tryz.ntmps15
      go_wp2
      exact bodyPost_ret (results_cell_row (p := 2) (ty := 29) rfl _ _ w.heap.size 29 _ (0, 0) _ rfl (heap_alloc_new w _) Tryz.underlying29 rfl (by kernel_rfl)) rfl ⟨rfl, below_one w _⟩
  · rw [if_neg (fun k => ho k.1), if_neg (fun k => ho k.1)]
    rw [Bool.not_eq_true] at ho
    rw [ho] at c32
    generalize m.en = q at *
    go_enter Tryz.func15, Tryz.ntmps15
    go_wp2
    exact bodyPost_ret (results_cell_row (p := 2) (ty := 29) rfl _ _ w.heap.size 29 _ (0, 0) _ rfl (heap_alloc_new w _) Tryz.underlying29 rfl (by kernel_rfl)) rfl ⟨rfl, below_one w _⟩
end Go.Proofs.YtpgehocadohkiaaGreatDoor
end

section
namespace Go.Proofs.YtpgehocadohkiaaGreatDoor
open Go.RowKit Go.Shelf

namespace Im
/-- one round of a run: the machine, what was told -/
def nxt (xs : List In) (fuel : Nat) (s : Mc × List (Nat × ByteArray)) : Mc × List (Nat × ByteArray) :=
  if s.1.ov = true then s else ((stp xs fuel s.1).1, if (stp xs fuel s.1).2.1 = 0 then s.2 else s.2 ++ [(stp xs fuel s.1).2])
def itr (xs : List In) (fuel : Nat) (m : Mc) : Nat → Mc × List (Nat × ByteArray)
  | 0 => (m, [])
  | k + 1 => nxt xs fuel (itr xs fuel m k)
/-- acts as cells -/
def acs (l : List (Nat × ByteArray)) : List Value := l.flatMap fun a => [.int .i64 (a.1 : Int), .string a.2]
end Im
theorem itr_over {xs : List In} {fuel : Nat} {m : Mc} {k : Nat} (h : (Im.itr xs fuel m k).1.ov = true) : ∀ j, Im.itr xs fuel m (k + j) = Im.itr xs fuel m k
  | 0 => rfl
  | j + 1 => by
    show Im.nxt xs fuel (Im.itr xs fuel m (k + j)) = _
    rw [itr_over h j]
    unfold Im.nxt
    rw [if_pos h]
theorem itr_ok {xs : List In} {fuel : Nat} {m : Mc} (h : m.Ok xs.length fuel) (g : ∀ x ∈ xs, x.Good xs.length) : ∀ k, (Im.itr xs fuel m k).1.Ok xs.length fuel
  | 0 => h
  | k + 1 => by
    have hi := itr_ok h g k
    show (Im.nxt xs fuel (Im.itr xs fuel m k)).1.Ok _ _
    unfold Im.nxt
    split
    · exact hi
    · rename_i ho; exact stp_ok hi (by simpa using ho) g
theorem itr_dn {xs : List In} {fuel : Nat} {m : Mc} (h : m.Ok xs.length fuel) (g : ∀ x ∈ xs, x.Good xs.length) : ∀ k, (Im.itr xs fuel m k).1.ov = false → (Im.itr xs fuel m k).1.dn = m.dn + k
  | 0, _ => rfl
  | k + 1, ho => by
    by_cases h1 : (Im.itr xs fuel m k).1.ov = true
    · have h2 := itr_over h1 1
      rw [h2, h1] at ho; cases ho
    · show (Im.nxt xs fuel (Im.itr xs fuel m k)).1.dn = _
      unfold Im.nxt
      rw [if_neg h1]
      show (Im.stp xs fuel _).1.dn = _
      rw [stp_dn, itr_dn h g k (by simpa using h1)]; omega
theorem itr_len (xs : List In) (fuel : Nat) (m : Mc) : ∀ k, (Im.itr xs fuel m k).2.length ≤ k
  | 0 => Nat.le_refl _
  | k + 1 => by
    have hi := itr_len xs fuel m k
    show (Im.nxt xs fuel (Im.itr xs fuel m k)).2.length ≤ _
    unfold Im.nxt
    split
    · omega
    · dsimp only
      split
      · omega
      · simp; omega
theorem acs_len (l : List (Nat × ByteArray)) : (Im.acs l).length = l.length * 2 := by
  unfold Im.acs
  induction l with
  | nil => rfl
  | cons x r ih => simp only [List.flatMap_cons, List.length_append, ih, List.length_cons, List.length_nil]; omega
theorem acs_app (l : List (Nat × ByteArray)) (a : Nat × ByteArray) : Im.acs (l ++ [a]) = Im.acs l ++ [.int .i64 (a.1 : Int), .string a.2] := by
  unfold Im.acs; simp
theorem infoAct : (Tryz.prog.info? 56).map (fun i => (i.zero, i.size, i.bytes)) = some (some (.agg #[.int .i64 0, .string ⟨#[]⟩]), 2, 24) := by kernel_rfl
theorem rown_grown {w w' : World} {base e size n : Nat} {v : Value} {xs : List Value} {r : Option Nat} (h : w.ownsRow base e size v n xs) (g : w.grownBy w' r) (hn : ∀ k, v.ownBlock = some k → some k ≠ r) : w'.ownsRow base e size v n xs := by
  refine ⟨h.1, ?_⟩
  rcases h.2 with h1 | ⟨k, cap, cur, rfl, hk, hh, h2⟩
  · exact .inl h1
  · exact .inr ⟨k, cap, cur, rfl, hk, (g.block k (lt_of_block hh) (hn k rfl)).trans hh, h2⟩
theorem rown_slice {w : World} {base e size n : Nat} {v : Value} {xs : List Value} (h : w.ownsRow base e size v n xs) : ∃ ad cap, v = .slice ad n cap := by
  rcases h.2 with ⟨h1, rfl⟩ | ⟨g, cap, cur, rfl, _⟩
  · exact ⟨_, _, h1⟩
  · exact ⟨_, _, rfl⟩
theorem grown_low {a b c : World} {B : Nat} {r : Option Nat} (h : a.grownBy b (some B)) (k : b.grownBy c r) (hr : ∀ g, r = some g → a.heap.size ≤ g) : a.grownBy c (some B) :=
  ⟨k.os.trans h.os, k.tape.trans h.tape, k.output.trans h.output, Nat.le_trans h.size k.size, fun i hi hn => (k.block i (Nat.lt_of_lt_of_le hi h.size) (fun e => absurd (hr i e.symm) (by omega))).trans (h.block i hi hn)⟩
set_option maxRecDepth 20000 in
set_option maxHeartbeats 4000000 in
theorem run_any {w : World} {B fuel : Nat} {m : Mc} {v : Value} {xs : List In} (h : Mb w B m v fuel) (hk : m.Ok xs.length fuel) (hg : ∀ x ∈ xs, x.Good xs.length) (hC : Cdn w v xs B) (hE : Env w B) (hm : xs.length < 1000000) (hf : fuel < 1000000) (most : Int) (hmo : most ≤ 9223372036854775807) :
    Calls Tryz.prog 14 #[.pointer (some ⟨B, 0, none⟩), .int .i64 most] w fun e w' => ∃ u, e = .returned u ∧ Mb w' B (Im.itr xs fuel m most.toNat).1 v fuel ∧ w'.ownsRow w.heap.size 56 2 u (Im.itr xs fuel m most.toNat).2.length (Im.acs (Im.itr xs fuel m most.toNat).2) ∧ w.grownBy w' (some B) := by
  have hlt := h.lt
  have HB := hide h
  have HK := hide hk
  have HG := hide hg
  have HC := hide hC
  have HE := hide hE
  clear hk hg hC hE
  go_enter Tryz.func14, Tryz.ntmps14
  go_wp2_with fail
  go_loopw [5, 6] (fun u t wr => ∃ k : Nat, t = .int .i64 (k : Int) ∧ k ≤ most.toNat ∧ Hid (Mb wr B (Im.itr xs fuel m k).1 v fuel) ∧ Hid (wr.ownsRow w.heap.size 56 2 u (Im.itr xs fuel m k).2.length (Im.acs (Im.itr xs fuel m k).2)) ∧ Hid (w.grownBy wr (some B))) (fun _ t _ => most.toNat - (intOf t).toNat)
  case atStart => exact ⟨0, rfl, Nat.zero_le _, HB, World.ownsRow_nil _ _ _ _, grown_none w 0 _⟩
  case round =>
    obtain ⟨k, rfl, hkm, HBk, HOk, HGk⟩ := hrel
    have c32 := HBk.out.cell (HBk.out.l8.g_ov v fuel)
    have hltk := HBk.out.lt
    by_cases hkl : (k : Int) < most
    · by_cases ho : (Im.itr xs fuel m k).1.ov = true
      · rw [ho] at c32
        go_wp2_with fail
        go_ret
        have e1 : Im.itr xs fuel m most.toNat = Im.itr xs fuel m k := by
          obtain ⟨j, hj⟩ : ∃ j, most.toNat = k + j := ⟨most.toNat - k, by omega⟩
          rw [hj]; exact itr_over ho j
        rw [e1]
        exact ⟨_, rfl, HBk.out, HOk.out, HGk.out⟩
      · rw [Bool.not_eq_true] at ho
        rw [ho] at c32
        have hok := itr_ok HK.out HG.out k
        have hkf : k < fuel := by have h1 := (hok.live ho).2.1; rw [itr_dn HK.out HG.out k ho] at h1; omega
        have hlen := itr_len xs fuel m k
        have HS := hide (step_live HBk.out ho hok HG.out (HC.out.grown HGk.out) (HE.out.grown HGk.out) hm hf)
        have hnx : Im.itr xs fuel m (k + 1) = ((Im.stp xs fuel (Im.itr xs fuel m k).1).1, if (Im.stp xs fuel (Im.itr xs fuel m k).1).2.1 = 0 then (Im.itr xs fuel m k).2 else (Im.itr xs fuel m k).2 ++ [(Im.stp xs fuel (Im.itr xs fuel m k).1).2]) := by
          show Im.nxt xs fuel _ = _
          unfold Im.nxt
          rw [if_neg (by rw [ho]; decide)]
        have HNX := hide hnx
        clear hnx
        generalize Im.itr xs fuel m k = I at *
        generalize Im.stp xs fuel I.1 = st at *
        have hkw : (k : Int) + 1 ≤ 9223372036854775807 := by omega
        obtain ⟨adu, capu, rfl⟩ := rown_slice HOk.out
        go_wp2_with fail
        refine HS.out.mono ?_
        rintro e w2 ⟨rfl, hm2, hg2⟩
        have hap : ∀ g, (Value.slice adu I.2.length capu).ownBlock = some g → w.heap.size ≤ g := fun g e => (HOk.out.lt g e).1
        have HO2 := hide (rown_grown HOk.out hg2 (fun g e e2 => by have := hap g e; injection e2 with e2; omega))
        have HG2 := hide (i_grown_trans HGk.out hg2)
        have HM2 := hide hm2
        clear hm2 hg2 c32 HS
        by_cases hz : st.2.1 = 0
        · have hzi : (st.2.1 : Int) = 0 := by omega
          have HN2 : Hid (Im.itr xs fuel m (k + 1) = (st.1, I.2)) := by have := HNX.out; rw [if_pos hz] at this; exact this
          generalize (st.2.1 : Int) = z at *
          subst hzi
          go_wp2_with fail
          go_roundw
          case rel => exact ⟨k + 1, by go_num, by omega, by rw [HN2.out]; exact HM2.out.grown (i_grown_one w2 _ none) (by simp), by rw [HN2.out]; exact rown_grown HO2.out (i_grown_one w2 _ none) (fun _ _ => by simp), i_grown_trans HG2.out (i_grown_one w2 _ _)⟩
          case measure => simp [intOf]; omega
        · have HN2 : Hid (Im.itr xs fuel m (k + 1) = (st.1, I.2 ++ [st.2])) := by have := HNX.out; rw [if_neg hz] at this; exact this
          have hzb : ((st.2.1 : Int) != 0) = true := by rw [bne_iff_ne]; omega
          obtain ⟨i0, hi0, hz0, hz1, hz2⟩ := info_parts infoAct
          have HO3 : Hid ((w2.alloc (.cells #[.int .i64 (st.2.1 : Int), .string st.2.2] 56)).ownsRow w.heap.size 56 2 (.slice adu I.2.length capu) I.2.length (Im.acs I.2)) := rown_grown HO2.out (i_grown_one w2 _ none) (fun _ _ => by simp)
          have hs2 := HG2.out.size
          go_wp2_with (at_builtin; refine wpList_append_lies _ rfl (.tmp 29) (.tmp 31) 53 rfl w.heap.size 56 i0 (.agg #[.int .i64 0, .string ⟨#[]⟩]) 2 24 Tryz.underlying53 hi0 hz0 hz1 hz2 rfl (by decide) (.slice adu I.2.length capu) I.2.length (Im.acs I.2) rfl (rown_grown HO3.out (i_grown_one _ (.cells #[.int .i64 (st.2.1 : Int), .string st.2.2] 56) none) (fun _ _ => by simp)) ⟨w2.heap.size + 1, 0, none⟩ 1 1 [.int .i64 (st.2.1 : Int), .string st.2.2] rfl (by simp) (World.news_of_block (cs := #[.int .i64 (st.2.1 : Int), .string st.2.2]) (t := 56) (fr := (0, 0)) (by have h1 := heap_alloc_new (w2.alloc (.cells #[.int .i64 (st.2.1 : Int), .string st.2.2] 56)) (.cells #[.int .i64 (st.2.1 : Int), .string st.2.2] 56); rw [World.size_alloc] at h1; exact h1)) (by simp [Value.oneCell']) (by decide) (by unfold maxLen; omega) (by omega) (by rw [World.size_alloc, World.size_alloc]; omega) (w2.heap.size + 2) (by rw [World.size_alloc, World.size_alloc]) ?_; intro g cap' w7 hown hgrow hat hlt7)
          have hgg := grown_low (i_grown_trans HG2.out (i_grown_trans (i_grown_one w2 (.cells #[.int .i64 (st.2.1 : Int), .string st.2.2] 56) _) (i_grown_one _ (.cells #[.int .i64 (st.2.1 : Int), .string st.2.2] 56) _))) hgrow hap
          have hm7 := (HM2.out.grown (i_grown_trans (i_grown_one w2 (.cells #[.int .i64 (st.2.1 : Int), .string st.2.2] 56) none) (i_grown_one _ (.cells #[.int .i64 (st.2.1 : Int), .string st.2.2] 56) none)) (by simp)).grown hgrow (fun e => by have := hap B e.symm; omega)
          go_roundw
          case rel => exact ⟨k + 1, by go_num, by omega, by rw [HN2.out]; exact hm7, by rw [HN2.out]; show World.ownsRow _ _ _ _ _ (I.2 ++ [st.2]).length (Im.acs (I.2 ++ [st.2])); rw [acs_app, List.length_append]; exact hown, hgg⟩
          case measure => simp [intOf]; omega
    · have hki : ¬ (k : Int) < most := hkl
      obtain rfl : k = most.toNat := by omega
      go_wp2_with fail
      go_ret
      exact ⟨_, rfl, HBk.out, HOk.out, HGk.out⟩
end Go.Proofs.YtpgehocadohkiaaGreatDoor
end

section
namespace Go.Proofs.YtpgehocadohkiaaGreatDoor
open Go.RowKit Go.Shelf

namespace Im
/-- what a program tells -/
def chk (l : List (Nat × ByteArray)) : List ByteArray := (l.filter fun a => a.1 == 1).map (·.2)
def pcs (l : List (Nat × ByteArray)) : List ByteArray := (l.filter fun a => !(a.1 == 1)).map (·.2)
def end_ (xs : List In) (fuel : Nat) : Mc × List (Nat × ByteArray) := itr xs fuel m0 fuel
def strs (l : List ByteArray) : List Value := l.map Value.string
end Im
/-- what came back of Whole -/
structure Out (w : World) (base : Nat) (o : Value) (I : Mc × List (Nat × ByteArray)) : Prop where
  form : ∃ cv pv, o = .agg #[.int .i64 (Im.resC I.1 : Int), .int .u64 (Im.resB I.1 : Int), cv, pv, .int .i64 (I.1.dn : Int)] ∧ w.ownsRow base 9 1 cv (Im.chk I.2).length (Im.strs (Im.chk I.2)) ∧ w.ownsRow base 9 1 pv (Im.pcs I.2).length (Im.strs (Im.pcs I.2))
/-- the library's tables -/
structure Tbs (w : World) : Prop where
  t64 : Tab64 w
  t10 : Tab10 w
theorem Tbs.below {a b : World} (h : Tbs a) (k : Below a.heap.size a b) : Tbs b := ⟨fun j hj => (k.cell (p := ⟨4, j, none⟩) (World.block_lt_of_cell? _ _ (h.t64 j hj))).trans (h.t64 j hj), tab10_below h.t10 k⟩
theorem Tbs.lt64 {a : World} (h : Tbs a) : 4 < a.heap.size := World.block_lt_of_cell? _ _ (h.t64 0 (by decide))
theorem Tbs.lt10 {a : World} (h : Tbs a) : 0 < a.heap.size := by
  have h := h.t10
  unfold Tab10 Lib.TabIs World.var? at h
  simp only [glob10, Option.bind_some] at h
  rcases Nat.lt_or_ge 0 a.heap.size with h' | h'
  · exact h'
  · rw [Array.getElem?_eq_none h'] at h; simp at h
theorem Tbs.env {w w' : World} {B : Nat} (h : Tbs w) (k : Below w.heap.size w w') (hB : w.heap.size ≤ B) : Env w' B := ⟨(h.below k).t64, (h.below k).t10, by have := h.lt64; omega, by have := h.lt10; omega⟩
theorem acs_at (l : List (Nat × ByteArray)) (i : Nat) (hi : i < l.length) : (Im.acs l)[i * 2]? = some (.int .i64 ((l[i]!).1 : Int)) ∧ (Im.acs l)[i * 2 + 1]? = some (.string (l[i]!).2) := by
  have h0 := flat_get (fun a : Nat × ByteArray => [Value.int .i64 (a.1 : Int), .string a.2]) 2 (fun _ => rfl) l i 0 hi (by decide)
  have h1 := flat_get (fun a : Nat × ByteArray => [Value.int .i64 (a.1 : Int), .string a.2]) 2 (fun _ => rfl) l i 1 hi (by decide)
  exact ⟨h0, h1⟩
theorem chk_app (l : List (Nat × ByteArray)) (a : Nat × ByteArray) : Im.chk (l ++ [a]) = if a.1 = 1 then Im.chk l ++ [a.2] else Im.chk l := by
  unfold Im.chk
  rw [List.filter_append, List.map_append]
  by_cases h : a.1 = 1
  · rw [if_pos h]; simp [h]
  · rw [if_neg h]; simp [h]
theorem pcs_app (l : List (Nat × ByteArray)) (a : Nat × ByteArray) : Im.pcs (l ++ [a]) = if a.1 = 1 then Im.pcs l else Im.pcs l ++ [a.2] := by
  unfold Im.pcs
  rw [List.filter_append, List.map_append]
  by_cases h : a.1 = 1
  · rw [if_pos h]; simp [h]
  · rw [if_neg h]; simp [h]
theorem strs_app (l : List ByteArray) (a : ByteArray) : Im.strs (l ++ [a]) = Im.strs l ++ [.string a] := by unfold Im.strs; simp
theorem chk_len (l : List (Nat × ByteArray)) : (Im.chk l).length ≤ l.length := by unfold Im.chk; rw [List.length_map]; exact List.length_filter_le _ _
theorem pcs_len (l : List (Nat × ByteArray)) : (Im.pcs l).length ≤ l.length := by unfold Im.pcs; rw [List.length_map]; exact List.length_filter_le _ _
theorem take_one (l : List (Nat × ByteArray)) (i : Nat) (h : i < l.length) : l.take (i + 1) = l.take i ++ [l[i]!] := by
  rw [List.take_add_one, getElem!_pos l i h, List.getElem?_eq_getElem h]; rfl
/-- the outcome under way -/
def Ob (w : World) (O : Nat) (cv pv : Value) : Prop := w.heap[O]? = some (.cells #[.int .i64 0, .int .u64 0, cv, pv, .int .i64 0] 32 (0, 0))
theorem Ob.cells {w : World} {O : Nat} {cv pv : Value} (h : Ob w O cv pv) : w.cell? ⟨O, 2, none⟩ = some cv ∧ w.cell? ⟨O, 3, none⟩ = some pv ∧ w.cell? ⟨O, 0, none⟩ = some (.int .i64 0) ∧ w.cell? ⟨O, 1, none⟩ = some (.int .u64 0) ∧ w.cell? ⟨O, 4, none⟩ = some (.int .i64 0) ∧ ∀ i, w.frozen? ⟨O, i, none⟩ = false := by
  unfold Ob at h
  exact ⟨by simp [World.cell?, h], by simp [World.cell?, h], by simp [World.cell?, h], by simp [World.cell?, h], by simp [World.cell?, h], fun i => by simp [World.frozen?, h]⟩
theorem Ob.lt {w : World} {O : Nat} {cv pv : Value} (h : Ob w O cv pv) : O < w.heap.size := lt_of_block h
theorem Ob.grown {w w' : World} {O : Nat} {cv pv : Value} (h : Ob w O cv pv) {r : Option Nat} (g : w.grownBy w' r) (hn : some O ≠ r) : Ob w' O cv pv := (g.block O (lt_of_block h) hn).trans h
theorem Ob.set2 {w : World} {O : Nat} {cv pv : Value} (h : Ob w O cv pv) (u : Value) : Ob (w.setCell ⟨O, 2, none⟩ u) O u pv := by
  unfold Ob at *
  have hlt := lt_of_block h
  have h' : w.heap[O] = .cells #[.int .i64 0, .int .u64 0, cv, pv, .int .i64 0] 32 (0, 0) := by simpa [Array.getElem?_eq_getElem hlt] using h
  show (w.heap.modify O _)[O]? = _
  rw [Array.getElem?_eq_getElem (by simpa using hlt), Array.getElem_modify_self, h']
  rfl
theorem Ob.set3 {w : World} {O : Nat} {cv pv : Value} (h : Ob w O cv pv) (u : Value) : Ob (w.setCell ⟨O, 3, none⟩ u) O cv u := by
  unfold Ob at *
  have hlt := lt_of_block h
  have h' : w.heap[O] = .cells #[.int .i64 0, .int .u64 0, cv, pv, .int .i64 0] 32 (0, 0) := by simpa [Array.getElem?_eq_getElem hlt] using h
  show (w.heap.modify O _)[O]? = _
  rw [Array.getElem?_eq_getElem (by simpa using hlt), Array.getElem_modify_self, h']
  rfl
theorem block_set {w : World} {Y T : Nat} {cs : Array Value} (h : w.heap[Y]? = some (.cells cs T (0, 0))) (i : Nat) (u : Value) : (w.setCell ⟨Y, i, none⟩ u).heap[Y]? = some (.cells (cs.setIfInBounds i u) T (0, 0)) := by
  have hlt := lt_of_block h
  have h' : w.heap[Y] = .cells cs T (0, 0) := by simpa [Array.getElem?_eq_getElem hlt] using h
  show (w.heap.modify Y _)[Y]? = _
  rw [Array.getElem?_eq_getElem (by simpa using hlt), Array.getElem_modify_self, h']
  rfl
theorem rown_low {w : World} {base b2 e size n : Nat} {v : Value} {xs : List Value} (h : w.ownsRow base e size v n xs) (hb : b2 ≤ base) : w.ownsRow b2 e size v n xs := by
  refine ⟨h.1, ?_⟩
  rcases h.2 with h1 | ⟨k, cap, cur, rfl, hk, h2⟩
  · exact .inl h1
  · exact .inr ⟨k, cap, cur, rfl, Nat.le_trans hb hk, h2⟩
theorem i_below_of_grown {a b c : World} {O Y n : Nat} (h : a.grownBy b (some O)) (k : b.grownBy c (some Y)) (hO : n ≤ O) (hY : n ≤ Y) (hn : n ≤ a.heap.size) : Below n a c :=
  ⟨k.os.trans h.os, k.tape.trans h.tape, k.output.trans h.output, Nat.le_trans h.size k.size, fun i hi => (k.block i (Nat.lt_of_lt_of_le hi (Nat.le_trans hn h.size)) (by simp; omega)).trans (h.block i (Nat.lt_of_lt_of_le hi hn) (by simp; omega))⟩
theorem res5 {fn : Func} (h : fn.results = #[.cell 2 32, .tmp 3]) (tmps : Array Value) (w : World) (Y : Nat) (cs : Array Value) (e : Value) (hp : tmps.getD 2 undef = .pointer (some ⟨Y, 0, none⟩)) (he : tmps.getD 3 undef = e)
    (hY : w.heap[Y]? = some (.cells cs 32 (0, 0))) (hs : cs.size = 5) : (results fn tmps).run Tryz.prog w = .ok (.tuple #[.agg cs, e]) w := by
  rw [results_cell_tmp h, hp, he]
  simp [asAddr, run_loadVar_row w Y 32 32 cs (0, 0) _ hY Tryz.underlying32 rfl (by rw [hs]; kernel_rfl)]
theorem five_of {w : World} {B T : Nat} {a b c d e : Value} (h : w.heap[B]? = some (.cells #[a, b, c, d, e] T (0, 0))) :
    w.cell? ⟨B, 0, none⟩ = some a ∧ w.cell? ⟨B, 1, none⟩ = some b ∧ w.cell? ⟨B, 2, none⟩ = some c ∧ w.cell? ⟨B, 3, none⟩ = some d ∧ w.cell? ⟨B, 4, none⟩ = some e ∧ ∀ i, w.frozen? ⟨B, i, none⟩ = false :=
  ⟨by simp [World.cell?, h], by simp [World.cell?, h], by simp [World.cell?, h], by simp [World.cell?, h], by simp [World.cell?, h], fun i => by simp [World.frozen?, h]⟩
/-- the two rows of an outcome: own, and apart -/
structure Rows2 (w : World) (base : Nat) (cv pv : Value) (c p : List ByteArray) : Prop where
  c : w.ownsRow base 9 1 cv c.length (Im.strs c)
  p : w.ownsRow base 9 1 pv p.length (Im.strs p)
  apart : ∀ g, cv.ownBlock = some g → pv.ownBlock ≠ some g
theorem infoStr : (Tryz.prog.info? 9).map (fun i => (i.zero, i.size, i.bytes)) = some (some (.string ⟨#[]⟩), 1, 16) := by kernel_rfl
/-- one text more in a row -/
theorem rows2_add {wr W w7 w8 : World} {base O n g cap H : Nat} {cv pv : Value} {c p : List ByteArray} {t : ByteArray} (h : Rows2 wr base cv pv c p) (hW : wr.grownBy W none) (hH : W.heap.size = H)
    (hown : w7.ownsRow base 9 1 (.slice (some ⟨g, 0, none⟩) n cap) n (Im.strs c ++ [.string t])) (hn : n = c.length + 1) (hgrow : W.grownBy w7 cv.ownBlock) (hat : cv.ownBlock = some g ∨ g = H)
    (hO : O < base) (h8 : w7.grownBy w8 (some O)) : Rows2 w8 base (.slice (some ⟨g, 0, none⟩) n cap) pv (c ++ [t]) p := by
  have hpb : ∀ k, pv.ownBlock = some k → base ≤ k ∧ k < wr.heap.size := fun k e => h.p.lt k e
  have hg : base ≤ g := (hown.lt g rfl).1
  refine ⟨?_, ?_, ?_⟩
  · rw [List.length_append, strs_app]
    subst hn
    exact rown_grown hown h8 (fun k e e2 => by simp only [Value.ownBlock] at e; injection e with e; injection e2 with e2; omega)
  · refine rown_grown (rown_grown (rown_grown h.p hW (fun _ _ => by simp)) hgrow (fun k e e2 => ?_)) h8 (fun k e e2 => by have := hpb k e; injection e2 with e2; omega)
    exact h.apart k e2.symm e
  · intro k e
    simp only [Value.ownBlock] at e
    injection e with e
    subst e
    intro e3
    rcases hat with h1 | h1
    · exact h.apart _ h1 e3
    · have := hpb _ e3; have := hW.size; omega
theorem Rows2.swap {w : World} {base : Nat} {cv pv : Value} {c p : List ByteArray} (h : Rows2 w base cv pv c p) : Rows2 w base pv cv p c := ⟨h.p, h.c, fun g e1 e2 => h.apart g e2 e1⟩
set_option maxRecDepth 20000 in
set_option maxHeartbeats 4000000 in
theorem whole_ok {w : World} {v : Value} {fuel : Nat} {xs : List In} (hx : ∀ x ∈ xs, x.Fits) (h : Cd w v xs) (hc : Pg.checkE fuel xs = (0, 0)) (hp : Pok fuel xs) (hT : Tbs w) :
    Calls Tryz.prog 4 #[.agg #[.int .i64 (fuel : Int), v]] w fun e w' => ∃ o, e = .returned (.tuple #[o, .int .i64 0]) ∧ Out w' w.heap.size o (Im.end_ xs fuel) ∧ Below w.heap.size w w' := by
  have h0 : 0 < xs.length := hp.l1
  have HN := hide (fun w1 (h1 : Cd w1 v xs) => new_ok hx h1 hc h0 hp.l2)
  have HCd := hide h
  have HT := hide hT
  have HP := hide hp
  obtain ⟨p, cap, rfl, -⟩ := h
  have hf1 := hp.f2
  have hl2 := hp.l2
  clear hx hc hT hp
  go_enter Tryz.func4, Tryz.ntmps4
  go_wp2_with fail
  have hW : Below w.heap.size w ((w.alloc (.cells #[.int .i64 (fuel : Int), .slice p xs.length cap] 24)).alloc (.cells #[.int .i64 0, .int .u64 0, .slice none 0 0, .slice none 0 0, .int .i64 0] 32)) := (below_one w _).trans ((below_one _ _).mono (by simp))
  refine (HN.out _ (HCd.out.below hW (Nat.le_refl _))).mono ?_
  rintro e w1 ⟨B, v1, rfl, hmb, hcd, hB, hb1⟩
  have hp : w1.heap[w.heap.size]? = some (.cells #[.int .i64 (fuel : Int), .slice p xs.length cap] 24 (0, 0)) := (hb1.block w.heap.size (by simp; omega)).trans ((heap_alloc_old _ _ (by simp)).trans (heap_alloc_new w _))
  have hr : w1.heap[w.heap.size + 1]? = some (.cells #[.int .i64 0, .int .u64 0, .slice none 0 0, .slice none 0 0, .int .i64 0] 32 (0, 0)) := (hb1.block (w.heap.size + 1) (by simp)).trans (by have q := heap_alloc_new (w.alloc (.cells #[.int .i64 (fuel : Int), .slice p xs.length cap] 24)) (.cells #[.int .i64 0, .int .u64 0, .slice none 0 0, .slice none 0 0, .int .i64 0] 32); rw [World.size_alloc] at q; exact q)
  have p0 : w1.cell? ⟨w.heap.size, 0, none⟩ = some (.int .i64 (fuel : Int)) := by simp [World.cell?, hp]
  have hpl : w.heap.size < w1.heap.size := lt_of_block hp
  have HB1 : Hid (Below w.heap.size w w1) := hW.trans (hb1.mono (by simp; omega))
  have HR := hide hr
  simp only [World.size_alloc] at hB
  have HM1 := hide hmb
  have HC1 := hide hcd
  clear hb1 hmb hcd
  go_wp2_with fail
  refine (run_any (HM1.out.grown (i_grown_one w1 _ none) (by simp)) (m0_ok xs.length fuel h0 HP.out.f1) HP.out.good (HC1.out.grown (i_grown_one w1 _ _)) ((HT.out.env HB1.out (by omega)).grown (i_grown_one w1 _ _)) (by omega) (by omega) (fuel : Int) (by omega)).mono ?_
  rintro e w2 ⟨u, rfl, hm2, ho2, hg2⟩
  rw [Int.toNat_natCast] at hm2 ho2
  rw [World.size_alloc] at ho2
  have hOw : w2.heap[w1.heap.size]? = some (.cells #[.int .i64 0, .int .u64 0, .slice none 0 0, .slice none 0 0, .int .i64 0] 32 (0, 0)) := (hg2.block w1.heap.size (by simp) (by have := HM1.out.lt; simp; omega)).trans (heap_alloc_new w1 _)
  have hr2 := (hg2.block (w.heap.size + 1) (by have := lt_of_block HR.out; simp; omega) (by simp; omega)).trans ((heap_alloc_old w1 _ (lt_of_block HR.out)).trans HR.out)
  have HR2 := hide hr2
  have hI : Im.itr xs fuel Im.m0 fuel = Im.end_ xs fuel := rfl
  have hlen : (Im.end_ xs fuel).2.length ≤ fuel := by rw [← hI]; exact itr_len _ _ _ _
  rw [hI] at hm2 ho2
  obtain ⟨I, hIe⟩ : ∃ I, Im.end_ xs fuel = I := ⟨_, rfl⟩
  rw [hIe] at hm2 ho2 hlen
  have HIE := hide hIe
  clear hIe
  have HG2 : Hid (w.grownBy w2 (some B)) := i_grown_trans (i_grown_below HB1.out _) (i_grown_trans (i_grown_one w1 _ _) hg2)
  have HB2 : Hid (Below w.heap.size w w2) := ⟨HG2.out.os, HG2.out.tape, HG2.out.output, HG2.out.size, fun i hi => HG2.out.block i hi (by simp; omega)⟩
  have HM2 := hide hm2
  have HO2 := hide ho2
  have hwl : w.heap.size + 2 ≤ w1.heap.size := by have := lt_of_block HR.out; omega
  have hw2 : w1.heap.size < w2.heap.size := lt_of_block hOw
  have hBl : B < w1.heap.size := HM1.out.lt
  obtain ⟨adu, capu, rfl⟩ := rown_slice ho2
  generalize w1.heap.size = O at *
  clear hm2 ho2 hg2 hr2 HM1 HC1 HN HR hI p0
  go_wp2_with fail
  go_loopw [23] (fun t wr => ∃ (i : Nat) (cv pv : Value), t = .int .i64 (i : Int) ∧ i ≤ I.2.length ∧ Hid (Ob wr O cv pv) ∧ Hid (Rows2 wr w2.heap.size cv pv (Im.chk (I.2.take i)) (Im.pcs (I.2.take i))) ∧ Hid (w2.grownBy wr (some O))) (fun t _ => I.2.length - (intOf t).toNat)
  case atStart => exact ⟨0, .slice none 0 0, .slice none 0 0, rfl, Nat.zero_le _, hOw, ⟨World.ownsRow_nil _ _ _ _, World.ownsRow_nil _ _ _ _, fun g e => by cases e⟩, grown_none w2 0 _⟩
  case round =>
    obtain ⟨i, cv, pv, rfl, hil, HOb, HRw, HGw⟩ := hrel
    have hsz := HGw.out.size
    by_cases hlt : i < I.2.length
    · obtain ⟨a, ha⟩ : ∃ a, I.2[i]! = a := ⟨_, rfl⟩
      obtain ⟨gu, capu', hgu⟩ := own_some HO2.out (by omega)
      injection hgu with e1 e2 e3
      subst e1 e3
      have hat0 := acs_at I.2 i hlt
      rw [ha] at hat0
      have hru := rown_grown HO2.out HGw.out (fun k e e2 => by have := (HO2.out.lt k e).1; injection e2 with e2; omega)
      have k0 := hru.cells rfl _ _ hat0.1
      have k1 := hru.cells rfl _ _ hat0.2
      rw [addr_add, Nat.zero_add] at k0 k1
      have htk := take_one I.2 i hlt
      rw [ha] at htk
      have HTC := hide (chk_app (I.2.take i) a)
      have HTP := hide (pcs_app (I.2.take i) a)
      rw [← htk] at HTC HTP
      have hcl := chk_len (I.2.take i)
      have hpl2 := pcs_len (I.2.take i)
      rw [List.length_take] at hcl hpl2
      obtain ⟨o2, o3, -, -, -, oz⟩ := HOb.out.cells
      have hii : (i : Int) < (I.2.length : Int) := by omega
      have hne : ¬ O = wr.heap.size := by have := HOb.out.lt; omega
      have hne1 : ¬ O = wr.heap.size + 1 := by have := HOb.out.lt; omega
      obtain ⟨adc, capc, rfl⟩ := rown_slice HRw.out.c
      obtain ⟨adp, capp, rfl⟩ := rown_slice HRw.out.p
      obtain ⟨i0, hi0, hz0, hz1, hz2⟩ := info_parts infoStr
      clear hru hat0 ha htk
      have hOl := HOb.out.lt
      by_cases hk1 : a.1 = 1
      · have hki : ((a.1 : Int) == 1) = true := by rw [hk1]; rfl
        rw [if_pos hk1] at HTC HTP
        clear hk1
        go_wp2_with (at_builtin; refine wpList_append_lies _ rfl (.tmp 31) (.tmp 34) 30 rfl w2.heap.size 9 i0 (.string ⟨#[]⟩) 1 16 Tryz.underlying30 hi0 hz0 hz1 hz2 rfl (by decide) (.slice adc (Im.chk (I.2.take i)).length capc) (Im.chk (I.2.take i)).length (Im.strs (Im.chk (I.2.take i))) rfl (rown_grown HRw.out.c (i_grown_trans (i_grown_one wr (.cells #[.int .i64 (a.1 : Int), .string a.2] 56) none) (i_grown_one _ (.cells #[.string a.2] 9) none)) (fun _ _ => by simp)) ⟨wr.heap.size + 1, 0, none⟩ 1 1 [.string a.2] rfl (by simp) (World.news_of_block (cs := #[.string a.2]) (t := 9) (fr := (0, 0)) (by have h1 := heap_alloc_new (wr.alloc (.cells #[.int .i64 (a.1 : Int), .string a.2] 56)) (.cells #[.string a.2] 9); rw [World.size_alloc] at h1; exact h1)) (by simp [Value.oneCell']) (by decide) (by unfold maxLen; omega) (by omega) (by rw [World.size_alloc, World.size_alloc]; omega) (wr.heap.size + 2) (by rw [World.size_alloc, World.size_alloc]) ?_; intro g7 cap7 w7 hown hgrow hat hlt7; have HO7 := hide ((HOb.out.grown (i_grown_trans (i_grown_one wr (.cells #[.int .i64 (a.1 : Int), .string a.2] 56) none) (i_grown_one _ (.cells #[.string a.2] 9) none)) (by simp)).grown hgrow (fun e => by have := (HRw.out.c.lt O e.symm).1; omega)); obtain ⟨d2, d3, -, -, -, dz⟩ := HO7.out.cells)
        have h8 : w7.grownBy (w7.setCell ⟨O, 2, none⟩ (.slice (some ⟨g7, 0, none⟩) ((Im.chk (I.2.take i)).length + 1) cap7)) (some O) := i_grown_set _ _ _ _
        have hR8 := rows2_add HRw.out (i_grown_trans (i_grown_one wr (.cells #[.int .i64 (a.1 : Int), .string a.2] 56) none) (i_grown_one _ (.cells #[.string a.2] 9) none)) rfl hown rfl hgrow (hat.imp id (fun e => by rw [e, World.size_alloc, World.size_alloc])) hw2 h8
        have hG8 := i_grown_trans (grown_low (i_grown_trans HGw.out (i_grown_trans (i_grown_one wr (.cells #[.int .i64 (a.1 : Int), .string a.2] 56) _) (i_grown_one _ (.cells #[.string a.2] 9) _))) hgrow (fun g e => (HRw.out.c.lt g e).1)) h8
        go_roundw
        case rel => exact ⟨i + 1, _, _, by go_num, by omega, HO7.out.set2 _, by rw [HTC.out, HTP.out]; exact hR8, hG8⟩
        case measure => simp [intOf]; omega
      · have hki : ((a.1 : Int) == 1) = false := by rw [beq_eq_false_iff_ne]; omega
        rw [if_neg hk1] at HTC HTP
        go_wp2_with (at_builtin; refine wpList_append_lies _ rfl (.tmp 38) (.tmp 41) 30 rfl w2.heap.size 9 i0 (.string ⟨#[]⟩) 1 16 Tryz.underlying30 hi0 hz0 hz1 hz2 rfl (by decide) (.slice adp (Im.pcs (I.2.take i)).length capp) (Im.pcs (I.2.take i)).length (Im.strs (Im.pcs (I.2.take i))) rfl (rown_grown HRw.out.p (i_grown_trans (i_grown_one wr (.cells #[.int .i64 (a.1 : Int), .string a.2] 56) none) (i_grown_one _ (.cells #[.string a.2] 9) none)) (fun _ _ => by simp)) ⟨wr.heap.size + 1, 0, none⟩ 1 1 [.string a.2] rfl (by simp) (World.news_of_block (cs := #[.string a.2]) (t := 9) (fr := (0, 0)) (by have h1 := heap_alloc_new (wr.alloc (.cells #[.int .i64 (a.1 : Int), .string a.2] 56)) (.cells #[.string a.2] 9); rw [World.size_alloc] at h1; exact h1)) (by simp [Value.oneCell']) (by decide) (by unfold maxLen; omega) (by omega) (by rw [World.size_alloc, World.size_alloc]; omega) (wr.heap.size + 2) (by rw [World.size_alloc, World.size_alloc]) ?_; intro g7 cap7 w7 hown hgrow hat hlt7; have HO7 := hide ((HOb.out.grown (i_grown_trans (i_grown_one wr (.cells #[.int .i64 (a.1 : Int), .string a.2] 56) none) (i_grown_one _ (.cells #[.string a.2] 9) none)) (by simp)).grown hgrow (fun e => by have := (HRw.out.p.lt O e.symm).1; omega)); obtain ⟨d2, d3, -, -, -, dz⟩ := HO7.out.cells)
        have h8 : w7.grownBy (w7.setCell ⟨O, 3, none⟩ (.slice (some ⟨g7, 0, none⟩) ((Im.pcs (I.2.take i)).length + 1) cap7)) (some O) := i_grown_set _ _ _ _
        have hR8 := rows2_add HRw.out.swap (i_grown_trans (i_grown_one wr (.cells #[.int .i64 (a.1 : Int), .string a.2] 56) none) (i_grown_one _ (.cells #[.string a.2] 9) none)) rfl hown rfl hgrow (hat.imp id (fun e => by rw [e, World.size_alloc, World.size_alloc])) hw2 h8
        have hG8 := i_grown_trans (grown_low (i_grown_trans HGw.out (i_grown_trans (i_grown_one wr (.cells #[.int .i64 (a.1 : Int), .string a.2] 56) _) (i_grown_one _ (.cells #[.string a.2] 9) _))) hgrow (fun g e => (HRw.out.p.lt g e).1)) h8
        go_roundw
        case rel => exact ⟨i + 1, _, _, by go_num, by omega, HO7.out.set3 _, by rw [HTC.out, HTP.out]; exact hR8.swap, hG8⟩
        case measure => simp [intOf]; omega
    · obtain rfl : i = I.2.length := by omega
      rw [List.take_length] at HRw
      have hki : ¬ (I.2.length : Int) < (I.2.length : Int) := by omega
      have HMb := hide (HM2.out.grown HGw.out (by simp; omega))
      have hBk := HMb.out.lt
      have hneO : ¬ O = w.heap.size + 1 := by omega
      have hneO2 : ¬ w.heap.size + 1 = O := by omega
      obtain ⟨adc, capc, rfl⟩ := rown_slice HRw.out.c
      obtain ⟨adp, capp, rfl⟩ := rown_slice HRw.out.p
      go_wp2_with (first | (go_at_call 15; refine (result_any HMb.out).mono ?_; rintro e w9 ⟨rfl, hb9⟩; have HM9 := hide (HMb.out.below hb9 hBk); have HO9 := hide (HOb.out.grown (i_grown_below hb9 none) (by simp)); have HR9 := hide (((hb9.block _ (Nat.lt_of_lt_of_le (lt_of_block HR2.out) hsz)).trans ((HGw.out.block _ (lt_of_block HR2.out) (by simp; omega)))).trans HR2.out); obtain ⟨o2, o3, o0, o1, o4, oz⟩ := HO9.out.cells; obtain ⟨r0, r1, r2, r3, r4, rz⟩ := five_of HR9.out) | (go_at_call 16; refine (done_any HM9.out).mono ?_; rintro e w10 ⟨rfl, rfl⟩))
      have hY : (((w10.setCell ⟨O, 0, none⟩ (.int .i64 (Im.resC I.1 : Int))).setCell ⟨O, 1, none⟩ (.int .u64 (Im.resB I.1 : Int))).setCell ⟨O, 4, none⟩ (.int .i64 (I.1.dn : Int))).heap[w.heap.size + 1]? = some (.cells #[.int .i64 0, .int .u64 0, .slice none 0 0, .slice none 0 0, .int .i64 0] 32 (0, 0)) :=
        (Below.heap_setCell _ ⟨O, 4, none⟩ _ _ (by show w.heap.size + 1 ≠ O; omega)).trans ((Below.heap_setCell _ ⟨O, 1, none⟩ _ _ (by show w.heap.size + 1 ≠ O; omega)).trans ((Below.heap_setCell _ ⟨O, 0, none⟩ _ _ (by show w.heap.size + 1 ≠ O; omega)).trans HR9.out))
      have gA : wr.grownBy w10 none := i_grown_below hb9 none
      have gB := i_grown_trans (i_grown_set w10 O 0 (.int .i64 (Im.resC I.1 : Int))) (i_grown_trans (i_grown_set _ O 1 (.int .u64 (Im.resB I.1 : Int))) (i_grown_set _ O 4 (.int .i64 (I.1.dn : Int))))
      generalize ((w10.setCell ⟨O, 0, none⟩ (.int .i64 (Im.resC I.1 : Int))).setCell ⟨O, 1, none⟩ (.int .u64 (Im.resB I.1 : Int))).setCell ⟨O, 4, none⟩ (.int .i64 (I.1.dn : Int)) = W9 at *
      have q1 := block_set (block_set (block_set (block_set (block_set hY 0 (.int .i64 (Im.resC I.1 : Int))) 1 (.int .u64 (Im.resB I.1 : Int))) 2 (.slice adc (Im.chk I.2).length capc)) 3 (.slice adp (Im.pcs I.2).length capp)) 4 (.int .i64 (I.1.dn : Int))
      have gC := i_grown_trans (i_grown_set W9 (w.heap.size + 1) 0 (.int .i64 (Im.resC I.1 : Int))) (i_grown_trans (i_grown_set _ (w.heap.size + 1) 1 (.int .u64 (Im.resB I.1 : Int))) (i_grown_trans (i_grown_set _ (w.heap.size + 1) 2 (.slice adc (Im.chk I.2).length capc)) (i_grown_trans (i_grown_set _ (w.heap.size + 1) 3 (.slice adp (Im.pcs I.2).length capp)) (i_grown_set _ (w.heap.size + 1) 4 (.int .i64 (I.1.dn : Int))))))
      have hfin : ∀ (c : Value) (n : Nat) (l : List Value), wr.ownsRow w2.heap.size 9 1 c n l → _ := fun c n l hr => rown_low (rown_grown (rown_grown (rown_grown hr gA (fun _ _ => by simp)) gB (fun k e e2 => by have := (hr.lt k e).1; injection e2 with e2; omega)) gC (fun k e e2 => by have := (hr.lt k e).1; injection e2 with e2; omega)) (show w.heap.size ≤ w2.heap.size by omega)
      refine bodyPost_ret (res5 rfl _ _ (w.heap.size + 1) _ (.int .i64 0) rfl rfl q1 rfl) rfl ⟨_, rfl, ?_, ?_⟩
      · rw [HIE.out]; exact ⟨_, _, rfl, hfin _ _ _ HRw.out.c, hfin _ _ _ HRw.out.p⟩
      · have hsw : w.heap.size ≤ w2.heap.size := HB2.out.size
        exact HB2.out.trans (i_below_of_grown (i_grown_trans (grown_low HGw.out gA (fun g e => by cases e)) gB) gC (by omega) (by omega) hsw)
end Go.Proofs.YtpgehocadohkiaaGreatDoor
end
