import Derived.Test.YteiickpokabmoabDkF
namespace Go.Proofs.Yteiickpokabmoab.D
open Go.RowKit

def zsec : ByteArray := ⟨Array.replicate 128 0⟩
theorem zsec_size : zsec.size = 128 := by simp [zsec, ByteArray.size]
/-- a new disk -/
def fresh (S : List ByteArray) : DS := ⟨S, [], false, 0, 0⟩
theorem fresh_ok {S : List ByteArray} (h : A128 S) (h0 : 0 < S.length) (h1 : S.length ≤ 1026) : (fresh S).ok := ⟨h, Int.le_refl _, (by decide : (0 : Int) ≤ 9223372036854775807), Int.le_refl _, (by decide : (0 : Int) ≤ 128), h0, h1⟩
theorem rep_128 (n : Nat) : A128 (List.replicate n zsec) := fun s hs => by rw [(List.mem_replicate.1 hs).2]; exact zsec_size
theorem scs_rep (n : Nat) : scs (List.replicate n zsec) = List.replicate (n * 128) (.int .u8 0) := by
  induction n with
  | zero => rfl
  | succ n ih =>
    rw [List.replicate_succ, scs, ih, show sc zsec = List.replicate 128 (.int .u8 0) by simp [sc, zsec], List.replicate_append_replicate]
    congr 1
    omega
theorem made_sec (n : Nat) : (madeCells (Value.agg (Array.replicate 128 (.int .u8 0))).cells (n * 128)).toList = scs (List.replicate n zsec) := by
  rw [scs_rep]
  apply List.ext_getElem
  · rw [Array.length_toList, size_madeCells, List.length_replicate]
  · intro i h1 h2
    have hm : i % 128 < 128 := Nat.mod_lt _ (by decide)
    simp [madeCells, Value.cells, hm]

/-- the block of a new disk -/
theorem fresh_dk {w W : World} {S : List ByteArray} {b g : Nat} (hS : A128 S) (h0 : 0 < S.length) (h1 : S.length ≤ 1026) (hgb : g ≠ b) (hlb : w.heap.size ≤ b) (hlg : w.heap.size ≤ g)
    (hb : W.heap[b]? = some (.cells #[.slice (some ⟨g, 0, none⟩) S.length S.length, .slice none 0 0, .bool false, .int .i64 0, .int .i64 0] 45 (0, 0)))
    (hg : W.heap[g]? = some (.cells (scs S).toArray 48 (0, 0))) : Dk w.heap.size W b (Fd b (.slice (some ⟨g, 0, none⟩) S.length S.length) (.slice none 0 0)) (fresh S) := by
  refine ⟨_, _, ⟨hb, hlb, ⟨scs_len hS, .inr ⟨g, S.length, _, rfl, hlg, hg, Nat.le_refl _, by unfold maxLen; omega, by rw [List.size_toArray, scs_len hS], ?_⟩⟩, World.ownsRow_nil _ _ _ _, ?_, by simp [Value.ownBlock], fun k _ => by simp [Value.ownBlock], fresh_ok hS h0 h1⟩, rfl⟩
  · show List.take (S.length * 128) (scs S).toArray.toList = scs S
    rw [List.toList_toArray, ← scs_len hS, List.take_length]
  · simp only [Value.ownBlock]; intro e; injection e with e; exact hgb e

set_option maxHeartbeats 400000 in
theorem new_no {w : World} {n : Int} (h : ¬ (1 ≤ n ∧ n ≤ 1026)) :
    Calls Try.prog 14 #[.int .i64 n] w fun e w' => e = .returned (.tuple #[.pointer none, .int .i64 40]) ∧ w' = w := by
  by_cases h0 : 1 ≤ n
  · have b0 : decide (1 ≤ n) = true := by simp; omega
    have b1 : decide (n ≤ 1026) = false := by simp; omega
    clear h h0
    go_enter Try.func14, Try.ntmps14
    go_wp2
    go_ret2
    exact ⟨rfl, rfl⟩
  · have b0 : decide (1 ≤ n) = false := by simp; omega
    clear h h0
    go_enter Try.func14, Try.ntmps14
    go_wp2
    go_ret2
    exact ⟨rfl, rfl⟩

set_option maxHeartbeats 400000 in
theorem new_any {w : World} {n : Nat} (h0 : 1 ≤ n) (h1 : n ≤ 1026) :
    Calls Try.prog 14 #[.int .i64 (n : Int)] w fun e w' => ∃ b F, e = .returned (.tuple #[.pointer (some ⟨b, 0, none⟩), .int .i64 0]) ∧ Dk w.heap.size w' b F (fresh (List.replicate n zsec)) ∧ Below w.heap.size w w' := by
  obtain ⟨i0, hi0, hz0, hz1, hz2⟩ := info_parts Try.infoC
  have hmk : ∀ W : World, (Instr.makeSlice 42 (.int .i64 (n : Int)) (.int .i64 (n : Int))).run Try.prog W = .ok (.slice (some ⟨W.heap.size, 0, none⟩) n n) (W.alloc (.cells (scs (List.replicate n zsec)).toArray 48)) := by
    intro W
    have := run_make (P := Try.prog) W 42 48 i0 _ Try.underlying42 hi0 hz0 .i64 .i64 (n : Int) (n : Int) (by omega) (Int.le_refl _) (by rw [hz2]; omega) (by omega)
    rw [Int.toNat_natCast, hz1] at this
    rw [this, ← made_sec, Array.toArray_toList]
  have h8 := rep_128 n
  have hl : (List.replicate n zsec).length = n := List.length_replicate
  generalize List.replicate n zsec = S at *
  subst hl
  generalize hX : (scs S).toArray = X at hmk
  have HX := hide hX
  have b0 : decide ((1 : Int) ≤ (S.length : Int)) = true := by simp; omega
  have b1 : decide ((S.length : Int) ≤ 1026) = true := by simp; omega
  clear hX hi0 hz0 hz1 hz2 i0
  go_enter Try.func14, Try.ntmps14
  go_wp2
  go_ret2
  refine ⟨_, _, rfl, fresh_dk (g := w.heap.size) h8 h0 h1 (by omega) (by omega) (by omega) (by rw [show w.heap.size + 1 = (w.alloc (.cells X 48)).heap.size from (World.size_alloc _ _).symm]; exact heap_alloc_new _ _) ?_, ((Below.refl _ w).alloc (Nat.le_refl _) _).alloc (by rw [World.size_alloc]; omega) _⟩
  rw [Below.heap_alloc _ _ _ (by rw [World.size_alloc]; omega), HX.out]
  exact heap_alloc_new w _

/-- a slice of texts that is read -/
structure Rs (w : World) (ad : Option Addr) (ab ao : Nat) (l : List ByteArray) : Prop where
  at_ : 0 < l.length → ad = some ⟨ab, ao, none⟩
  cell : ∀ i (h : i < l.length), w.cell? ⟨ab, ao + i, none⟩ = some (.string l[i])
theorem Rs.lt {w : World} {ad : Option Addr} {ab ao : Nat} {l : List ByteArray} (h : Rs w ad ab ao l) (h0 : 0 < l.length) : ab < w.heap.size := World.block_lt_of_cell? _ _ (h.cell 0 h0)
theorem Rs.keep {w w' : World} {ad : Option Addr} {ab ao : Nat} {l : List ByteArray} (h : Rs w ad ab ao l) (hk : 0 < l.length → w'.heap[ab]? = w.heap[ab]?) : Rs w' ad ab ao l :=
  ⟨h.at_, fun i hi => (World.cell?_of_block (hk (by omega))).trans (h.cell i hi)⟩
theorem Rs.below {w w' : World} {ad : Option Addr} {ab ao : Nat} {l : List ByteArray} (h : Rs w ad ab ao l) (hb : Below w.heap.size w w') : Rs w' ad ab ao l := h.keep fun h0 => hb.block _ (h.lt h0)
theorem Rs.mv {w w' : World} {F F' : Nat → Prop} {ad : Option Addr} {ab ao : Nat} {l : List ByteArray} (h : Rs w ad ab ao l) (hm : Mv F F' w w') (hn : 0 < l.length → ¬ F ab) : Rs w' ad ab ao l := h.keep fun h0 => hm.block _ (h.lt h0) (hn h0)
theorem Rs.own {w : World} {B : Nat} {ad : Option Addr} {n cap : Nat} {l : List ByteArray} (h : w.ownsRow B 9 1 (.slice ad n cap) n (l.map .string)) : n = l.length ∧ ∃ ab, Rs w ad ab 0 l := by
  have hl := h.1
  rw [List.length_map, Nat.mul_one] at hl
  refine ⟨hl.symm, ?_⟩
  rcases own_form h with ⟨h1, hn⟩ | ⟨g, cap', h1, _⟩
  · exact ⟨0, fun h => absurd h (by omega), fun i hi => absurd hi (by omega)⟩
  · injection h1 with h1
    subst h1
    refine ⟨g, fun _ => rfl, fun i hi => ?_⟩
    have := h.cells (g := g) rfl i (.string l[i]) (by rw [List.getElem?_map, List.getElem?_eq_getElem hi]; rfl)
    rwa [Addr.add_lit] at this
/-- a slice of writes that is read -/
structure Rw (w : World) (ad : Option Addr) (ab ao : Nat) (l : List Wr) : Prop where
  at_ : 0 < l.length → ad = some ⟨ab, ao, none⟩
  sec : ∀ i (h : i < l.length), w.cell? ⟨ab, ao + i * 2, none⟩ = some (.int .i64 l[i].sec)
  data : ∀ i (h : i < l.length), w.cell? ⟨ab, ao + i * 2 + 1, none⟩ = some (.string l[i].data)
theorem Rw.lt {w : World} {ad : Option Addr} {ab ao : Nat} {l : List Wr} (h : Rw w ad ab ao l) (h0 : 0 < l.length) : ab < w.heap.size := World.block_lt_of_cell? _ _ (h.sec 0 h0)
theorem Rw.keep {w w' : World} {ad : Option Addr} {ab ao : Nat} {l : List Wr} (h : Rw w ad ab ao l) (hk : 0 < l.length → w'.heap[ab]? = w.heap[ab]?) : Rw w' ad ab ao l :=
  ⟨h.at_, fun i hi => (World.cell?_of_block (hk (by omega))).trans (h.sec i hi), fun i hi => (World.cell?_of_block (hk (by omega))).trans (h.data i hi)⟩
theorem Rw.below {w w' : World} {ad : Option Addr} {ab ao : Nat} {l : List Wr} (h : Rw w ad ab ao l) (hb : Below w.heap.size w w') : Rw w' ad ab ao l := h.keep fun h0 => hb.block _ (h.lt h0)
theorem Rw.mv {w w' : World} {F F' : Nat → Prop} {ad : Option Addr} {ab ao : Nat} {l : List Wr} (h : Rw w ad ab ao l) (hm : Mv F F' w w') (hn : 0 < l.length → ¬ F ab) : Rw w' ad ab ao l := h.keep fun h0 => hm.block _ (h.lt h0) (hn h0)
theorem Rw.own {w : World} {B : Nat} {ad : Option Addr} {n cap : Nat} {l : List Wr} (h : w.ownsRow B 51 2 (.slice ad n cap) n (wcs l)) : n = l.length ∧ ∃ ab, Rw w ad ab 0 l := by
  have hl := h.1
  rw [wcs_len] at hl
  have hn : n = l.length := by omega
  refine ⟨hn, ?_⟩
  rcases own_form h with ⟨h1, h0⟩ | ⟨g, cap', h1, _⟩
  · exact ⟨0, fun h => absurd h (by omega), fun i hi => absurd hi (by omega), fun i hi => absurd hi (by omega)⟩
  · injection h1 with h1
    subst h1
    refine ⟨g, fun _ => rfl, fun i hi => ?_, fun i hi => ?_⟩
    · have := h.cells (g := g) rfl (i * 2 + 0) (.int .i64 l[i].sec) (by rw [wcs_get l i 0 hi (by decide)]; rfl)
      rwa [Addr.add_lit] at this
    · have := h.cells (g := g) rfl (i * 2 + 1) (.string l[i].data) (by rw [wcs_get l i 1 hi (by decide)]; rfl)
      rwa [Addr.add_lit, ← Nat.add_assoc] at this
end Go.Proofs.Yteiickpokabmoab.D
