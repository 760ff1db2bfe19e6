import Derived.Test.YtkchddphmkgilaaQuM
import Derived.Test.YtkchddphmkgilaaQuI
namespace Go.Proofs.Ytkchddphmkgilaa
open Go.RowKit

theorem rows1_any {w : World} {ad : Option Addr} {ab ao cap X Y : Nat} {L : List Rr} {most : Int} (h : Rs w ad ab ao L) (hl : L.length ≤ 1000) (hc : Cx w X Y most (.slice ad L.length cap)) (g : Int) (g0 : 0 ≤ g) (g1 : g ≤ 1000) (r : Rr) :
    Calls Try.prog 25 #[.int .i64 g, r.val, .pointer (some ⟨X, 0, none⟩), .pointer (some ⟨Y, 0, none⟩)] w fun e w' => e = .returned (.int .i64 (gdF most L g r)) ∧ Below w.heap.size w w' := by
  by_cases hf : r = fm (g + 1) r
  · by_cases hs : sMay most r
    · by_cases hb : bMay r
      · cases hh : shr L r with
        | true =>
          rw [show gdF most L g r = g from if_neg fun x => by rw [x.2.2.2] at hh; cases hh]
          exact rows1_D h hl hc g g0 g1 r (decide_eq_true hf) (decide_eq_true hs) (decide_eq_true hb) hh
        | false =>
          rw [show gdF most L g r = g + 1 from if_pos ⟨hf, hs, hb, hh⟩]
          exact rows1_E h hl hc g g0 g1 r (decide_eq_true hf) (decide_eq_true hs) (decide_eq_true hb) hh
      · rw [show gdF most L g r = g from if_neg fun x => hb x.2.2.1]
        exact rows1_C h hl hc g g0 g1 r (decide_eq_true hf) (decide_eq_true hs) (decide_eq_false hb)
    · rw [show gdF most L g r = g from if_neg fun x => hs x.2.1]
      exact rows1_B h hl hc g g0 g1 r (decide_eq_true hf) (decide_eq_false hs)
  · rw [show gdF most L g r = g from if_neg fun x => hf x.1]
    exact rows1_A h hl hc g g0 g1 r (decide_eq_false hf)
theorem gdF_le (m : Int) (L : List Rr) (g : Int) (r : Rr) : g ≤ gdF m L g r ∧ gdF m L g r ≤ g + 1 := by
  unfold gdF; split <;> omega
set_option maxHeartbeats 1000000 in
theorem rowsMay_no {w : World} {ad : Option Addr} {cap n : Nat} {most : Int} (hn : 8 < n) :
    Calls Try.prog 9 #[.int .i64 most, .slice ad n cap] w fun e w' => e = .returned (.bool false) ∧ Below w.heap.size w w' := by
  have hi : (8 : Int) < (n : Int) := by omega
  go_enter Try.func9, Try.ntmps9
  go_wp2
  go_ret
  exact ⟨rfl, (below_alloc w _).alloc (by simp) _⟩
set_option maxHeartbeats 1000000 in
set_option maxRecDepth 8000 in
theorem rowsMay_yes {w : World} {ad : Option Addr} {ab ao cap : Nat} {L : List Rr} {most : Int} (h : Rs w ad ab ao L) (hl : L.length ≤ 8) :
    Calls Try.prog 9 #[.int .i64 most, .slice ad L.length cap] w fun e w' => e = .returned (.bool (decide (L.foldl (gdF most L) 0 = (L.length : Int)))) ∧ Below w.heap.size w w' := by
  have hmf : ∀ (fn : Fn) (first cap : Array Value) (w : World), (Instr.makeFunc fn first cap).run Try.prog w = .ok (.func fn first cap) w := fun _ _ _ _ => rfl
  have hi : ¬ (8 : Int) < (L.length : Int) := by omega
  have s1 := World.size_alloc w (.cells #[.int .i64 most] 3)
  have hbw : Below w.heap.size w ((w.alloc (.cells #[.int .i64 most] 3)).alloc (.cells #[.slice ad L.length cap] 22)) := (below_alloc w _).alloc (by simp) _
  have hcx : Cx ((w.alloc (.cells #[.int .i64 most] 3)).alloc (.cells #[.slice ad L.length cap] 22)) w.heap.size (w.heap.size + 1) most (.slice ad L.length cap) := ⟨by rw [World.cell?_alloc_past _ _ _ (by simp), World.cell?_alloc_at _ _ _ _ rfl]; rfl, by rw [World.cell?_alloc_at _ _ _ _ (by simp)]; rfl⟩
  have HW := hide hbw
  have HX := hide hcx
  have HR := hide (h.below hbw)
  have cy := hcx.y
  have HKy : Hid (∀ V, Below ((w.alloc (.cells #[.int .i64 most] 3)).alloc (.cells #[.slice ad L.length cap] 22)).heap.size ((w.alloc (.cells #[.int .i64 most] 3)).alloc (.cells #[.slice ad L.length cap] 22)) V → V.cell? ⟨w.heap.size + 1, 0, none⟩ = some (.slice ad L.length cap)) := hide fun V hV => (hcx.below hV).y
  have hsz : w.heap.size ≤ ((w.alloc (.cells #[.int .i64 most] 3)).alloc (.cells #[.slice ad L.length cap] 22)).heap.size := hbw.size
  clear h hcx hbw
  go_enter Try.func9, Try.ntmps9
  go_wp2_with fail
  generalize (w.alloc (.cells #[.int .i64 most] 3)).alloc (.cells #[.slice ad L.length cap] 22) = W at *
  refine (askI_any (cap := cap) HR.out (by omega) 25 #[.pointer (some ⟨w.heap.size, 0, none⟩), .pointer (some ⟨w.heap.size + 1, 0, none⟩)] (gdF most L) (fun i g => 0 ≤ g ∧ g ≤ i) 0 ⟨Int.le_refl _, Int.le_refl _⟩ (fun _ _ _ => rfl) (fun w1 i hi a hb hp => ⟨by have := gdF_le most L a L[i]; omega, rows1_any (HR.out.below hb) (by omega) (HX.out.below hb) a hp.1 (by omega) L[i]⟩)).mono ?_
  rintro e w2 ⟨rfl, hB2, hP2⟩
  have k2 := HKy.out _ hB2
  have HBf := hide (HW.out.trans (hB2.mono hsz))
  clear cy HR HX HKy HW hB2
  obtain ⟨q, hq⟩ : ∃ q, L.foldl (gdF most L) 0 = q := ⟨_, rfl⟩
  have HQ := hide hq
  rw [hq] at hP2 ⊢
  clear hq
  go_wp2_with fail
  go_ret
  exact ⟨by rw [HQ.out]; show Ending.returned (.bool (q == (L.length : Int))) = _; congr 2, HBf.out⟩
theorem rowsMay_any {w : World} {ad : Option Addr} {ab ao cap : Nat} {L : List Rr} {most : Int} (h : Rs w ad ab ao L) :
    Calls Try.prog 9 #[.int .i64 most, .slice ad L.length cap] w fun e w' => (ROk most L ∧ e = .returned (.bool true) ∨ ¬ ROk most L ∧ e = .returned (.bool false)) ∧ Below w.heap.size w w' := by
  by_cases hl : L.length ≤ 8
  · refine (rowsMay_yes h hl).mono ?_
    rintro e w' ⟨rfl, hB⟩
    by_cases hr : ROk most L
    · rw [decide_eq_true ((rok_iff most L hl).2 hr)]; exact ⟨.inl ⟨hr, rfl⟩, hB⟩
    · rw [decide_eq_false fun x => hr ((rok_iff most L hl).1 x)]; exact ⟨.inr ⟨hr, rfl⟩, hB⟩
  · refine (rowsMay_no (by omega)).mono ?_
    rintro e w' ⟨rfl, hB⟩
    exact ⟨.inr ⟨fun x => hl x.len, rfl⟩, hB⟩

/-- blocks F of w are turned, F' is what they have become -/
structure Mv (F F' : Nat → Prop) (w w' : World) : Prop where
  os : w'.os = w.os
  tape : w'.tape = w.tape
  output : w'.output = w.output
  size : w.heap.size ≤ w'.heap.size
  block : ∀ k, k < w.heap.size → ¬ F k → w'.heap[k]? = w.heap[k]?
  foot : ∀ k, F' k → F k ∨ w.heap.size ≤ k
theorem Mv.trans {F G H : Nat → Prop} {a b c : World} (h : Mv F G a b) (k : Mv G H b c) : Mv F H a c :=
  ⟨k.os.trans h.os, k.tape.trans h.tape, k.output.trans h.output, Nat.le_trans h.size k.size,
    fun i hi hf => (k.block i (Nat.lt_of_lt_of_le hi h.size) (fun hg => (h.foot i hg).elim hf (fun h2 => absurd hi (by omega)))).trans (h.block i hi hf),
    fun i hi => (k.foot i hi).elim (h.foot i) (fun h2 => .inr (Nat.le_trans h.size h2))⟩
theorem Mv.below {F F' : Nat → Prop} {w w' : World} (h : Mv F F' w w') {B : Nat} (hB : B ≤ w.heap.size) (hF : ∀ k, F k → B ≤ k) : Below B w w' :=
  ⟨h.os, h.tape, h.output, h.size, fun k hk => h.block k (by omega) (fun hf => absurd (hF k hf) (by omega))⟩
theorem Mv.of_below {F : Nat → Prop} {w w' : World} (h : Below w.heap.size w w') : Mv F F w w' :=
  ⟨h.os, h.tape, h.output, h.size, fun k hk _ => h.block k hk, fun _ hk => .inl hk⟩
/-- a queue: a number and a slice of rows -/
structure Qm (T base : Nat) (w : World) (b : Nat) (v : Value) (m : Int) (L : List Rr) : Prop where
  blk : w.heap[b]? = some (.cells #[.int .i64 m, v] T (0, 0))
  low : base ≤ b
  row : w.ownsRow base 30 8 v L.length (rcs L)
  apt : v.ownBlock ≠ some b
/-- its blocks -/
def Ft (b : Nat) (v : Value) (k : Nat) : Prop := k = b ∨ v.ownBlock = some k
section
variable {T base : Nat} {w : World} {b : Nat} {v : Value} {L : List Rr} {m : Int}
theorem Qm.lt (h : Qm T base w b v m L) : b < w.heap.size := lt_of_block h.blk
theorem Qm.c0 (h : Qm T base w b v m L) : w.cell? ⟨b, 0, none⟩ = some (.int .i64 m) := by have := h.blk; simp [World.cell?, this]
theorem Qm.c1 (h : Qm T base w b v m L) : w.cell? ⟨b, 1, none⟩ = some v := by have := h.blk; simp [World.cell?, this]
theorem Qm.z (h : Qm T base w b v m L) (k : Nat) : w.frozen? ⟨b, k, none⟩ = false := by have := h.blk; simp [World.frozen?, this]
theorem Qm.ftlt (h : Qm T base w b v m L) : ∀ k, Ft b v k → base ≤ k ∧ k < w.heap.size := by
  rintro k (rfl | hk)
  · exact ⟨h.low, h.lt⟩
  · exact h.row.lt k hk
theorem Qm.keep {w' : World} (h : Qm T base w b v m L) (hs : ∀ k, Ft b v k → w'.heap[k]? = w.heap[k]?) : Qm T base w' b v m L := by
  refine ⟨(hs b (.inl rfl)).trans h.blk, h.low, ?_, h.apt⟩
  refine ⟨h.row.1, ?_⟩
  rcases h.row.2 with h1 | ⟨g, cap, cur, rfl, hb, hg, h2⟩
  · exact .inl h1
  · exact .inr ⟨g, cap, cur, rfl, hb, (hs g (.inr rfl)).trans hg, h2⟩
theorem Qm.below {w' : World} (h : Qm T base w b v m L) (hb : Below w.heap.size w w') : Qm T base w' b v m L :=
  h.keep fun k hk => hb.block k (h.ftlt k hk).2
theorem Qm.mv {w' : World} {F F' : Nat → Prop} (h : Qm T base w b v m L) (hm : Mv F F' w w') (ha : ∀ k, Ft b v k → ¬ F k) : Qm T base w' b v m L :=
  h.keep fun k hk => hm.block k (h.ftlt k hk).2 (ha k hk)
theorem Qm.form (h : Qm T base w b v m L) : ∃ ad cap ab, v = .slice ad L.length cap ∧ Rs w ad ab 0 L ∧ L.length ≤ cap := by
  rcases h.row.2 with ⟨rfl, hn⟩ | ⟨g, cap, cur, rfl, _⟩
  · obtain rfl : L = [] := List.length_eq_zero_iff.1 hn
    exact ⟨none, 0, 0, rfl, ⟨fun h => absurd h (by simp), fun i hi => absurd hi (by simp)⟩, Nat.zero_le _⟩
  · obtain ⟨ab, h1, _, h2⟩ := Rs.own h.row
    exact ⟨_, cap, ab, rfl, h1, h2⟩
end
end Go.Proofs.Ytkchddphmkgilaa
