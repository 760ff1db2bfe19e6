import Derived.Test.YtamonfeniheghaaSkN
import Derived.ProofKit
import Derived.OpenShut
import Derived.ShutString
import Derived.SizedLaws
import Derived.Carry
import Derived.Deep.SlicePairs
import Derived.Deep.Strs
import Derived.Lib.SmallJoins
namespace Go.Proofs.Ytamonfeniheghaa.K
open Go.ChangeShapes Go.WideShapes Go.ChangeAt Go.RowKit Go.Deep

theorem own : ownKnob Try.prog.godebug = none := by kernel_rfl
theorem Try.laidOut : laidOutB Try.prog = true := by kernel_rfl
theorem Try.cellsI : Try.prog.cellsOf 3 = 1 := by kernel_rfl
theorem Try.cellsS : Try.prog.cellsOf 9 = 1 := by kernel_rfl
theorem Try.cellsA : Try.prog.cellsOf 31 = 2 := by kernel_rfl
theorem Try.bytesI : Try.prog.bytesOf 3 = 8 := by kernel_rfl
theorem Try.bytesOc : Try.prog.bytesOf 33 = 88 := by kernel_rfl
theorem Try.cellsOc : Try.prog.cellsOf 33 = 9 := by kernel_rfl
/-- a call of a law -/
structure Oc where
  k : Int
  on : Int
  job : Int
  bdg : Int
  idx : Int
  tx : ByteArray
  da : ByteArray
  node : Int
  life : Int
def Oc.cs (d : Oc) : List Value := [.int .i64 d.k, .int .i64 d.on, .int .i64 d.job, .int .i64 d.bdg, .int .i64 d.idx, .string d.tx, .string d.da, .int .i64 d.node, .int .i64 d.life]
/-- calls that are read -/
structure Or (w : World) (ad : Option Addr) (ab ao : Nat) (L : List Oc) : Prop where
  at_ : 0 < L.length → ad = some ⟨ab, ao, none⟩
  c : ∀ i (h : i < L.length) k, k < 9 → w.cell? ⟨ab, ao + i * 9 + k, none⟩ = (L[i]).cs[k]?
  da : ∀ i (h : i < L.length), (L[i]).da.size ≤ 140737488355328
theorem Or.lt {w : World} {ad : Option Addr} {ab ao : Nat} {L : List Oc} (h : Or w ad ab ao L) (h0 : 0 < L.length) : ab < w.heap.size := World.block_lt_of_cell? _ _ (h.c 0 h0 0 (by decide))
theorem Or.keep {w w' : World} {ad : Option Addr} {ab ao : Nat} {L : List Oc} (h : Or w ad ab ao L) (hk : 0 < L.length → w'.heap[ab]? = w.heap[ab]?) : Or w' ad ab ao L :=
  ⟨h.at_, fun i hi k h8 => (World.cell?_of_block (hk (by omega))).trans (h.c i hi k h8), h.da⟩
theorem Or.nine {w : World} {ad : Option Addr} {ab ao : Nat} {L : List Oc} (h : Or w ad ab ao L) {i : Nat} (hi : i < L.length) :
    w.cell? ⟨ab, ao + i * 9, none⟩ = some (.int .i64 (L[i]).k) ∧ w.cell? ⟨ab, ao + i * 9 + 1, none⟩ = some (.int .i64 (L[i]).on) ∧ w.cell? ⟨ab, ao + i * 9 + 2, none⟩ = some (.int .i64 (L[i]).job) ∧ w.cell? ⟨ab, ao + i * 9 + 3, none⟩ = some (.int .i64 (L[i]).bdg) ∧ w.cell? ⟨ab, ao + i * 9 + 4, none⟩ = some (.int .i64 (L[i]).idx) ∧ w.cell? ⟨ab, ao + i * 9 + 5, none⟩ = some (.string (L[i]).tx) ∧ w.cell? ⟨ab, ao + i * 9 + 6, none⟩ = some (.string (L[i]).da) ∧ w.cell? ⟨ab, ao + i * 9 + 7, none⟩ = some (.int .i64 (L[i]).node) ∧ w.cell? ⟨ab, ao + i * 9 + 8, none⟩ = some (.int .i64 (L[i]).life) :=
  ⟨h.c i hi 0 (by decide), h.c i hi 1 (by decide), h.c i hi 2 (by decide), h.c i hi 3 (by decide), h.c i hi 4 (by decide), h.c i hi 5 (by decide), h.c i hi 6 (by decide), h.c i hi 7 (by decide), h.c i hi 8 (by decide)⟩
section
variable {H : Type} {enc : TypeId × Value → H}
theorem range_get {α : Type} (f : Nat → α) (n i : Nat) (h : i < ((List.range n).map f).length) : ((List.range n).map f)[i] = f i := by simp
theorem range_len {α : Type} (f : Nat → α) (n : Nat) : ((List.range n).map f).length = n := by simp
theorem weights_all_mem {P : Program} {e : TypeId} {d : DataW H} : ∀ {ds : List (DataW H)}, d ∈ ds → ∀ n ∈ d.weights P e, n ∈ DataW.weightsAll P e ds
  | d0 :: ds, h, n, hn => by
    simp only [DataW.weightsAll, List.mem_append]
    rcases List.mem_cons.mp h with rfl | h
    · exact Or.inl hn
    · exact Or.inr (weights_all_mem h n hn)
theorem sized_mem {P : Program} {ts : List TypeId} {ds : List (DataW H)} (h : (DataW.weightsEach P ts ds).all (· ≤ reachBytes) = true) {j : Nat} {t : TypeId} {d : DataW H} (ht : ts[j]? = some t) (hd : ds[j]? = some d) : ∀ k ∈ d.weights P t, k ≤ reachBytes := fun k hk => by
  simpa using List.all_eq_true.1 h _ (DataW.weights_mem_each ht hd k hk)
set_option maxRecDepth 20000 in
/-- a call, opened -/
theorem op_at {W : World} {n : Nat} {cs : List Value} {x : DataW H × List MemPlace} (h : DataW.trod enc Try.prog W 0 (fun _ => true) true n 33 cs = some x) (hw : ∀ k ∈ x.1.weights Try.prog 33, k ≤ reachBytes) :
    ∃ q : Oc, cs = q.cs ∧ q.da.size ≤ 140737488355328 := by
  obtain ⟨xs, n, _, hxx, hl, hlen, hfi⟩ := DataW.trod_struct Try.underlying33 h
  rw [Try.cellsOc] at hl
  obtain ⟨c0, c1, c2, c3, c4, c5, c6, c7, c8, rfl⟩ : ∃ c0 c1 c2 c3 c4 c5 c6 c7 c8, cs = [c0, c1, c2, c3, c4, c5, c6, c7, c8] := by
    match cs, hl with
    | [c0, c1, c2, c3, c4, c5, c6, c7, c8], _ => exact ⟨c0, c1, c2, c3, c4, c5, c6, c7, c8, rfl⟩
  have hx : ∀ i, i < 8 → ∃ y, xs[i]? = some y := fun i hi => ⟨xs[i]'(by rw [hlen]; exact hi), List.getElem?_eq_getElem _⟩
  obtain ⟨y0, hy0⟩ := hx 0 (by decide)
  have g0 : DataW.trod enc Try.prog W 0 (fun _ => true) true n 3 [c0] = some y0 := by
    have this : DataW.trod enc Try.prog W 0 (fun _ => true) true n 3 ((List.drop 0 [c0, c1, c2, c3, c4, c5, c6, c7, c8]).take (Try.prog.cellsOf 3)) = xs[0]? := hfi 0 _ rfl
    rw [Try.cellsI] at this
    rw [← hy0]; exact this
  obtain ⟨y1, hy1⟩ := hx 1 (by decide)
  have g1 : DataW.trod enc Try.prog W 0 (fun _ => true) true n 3 [c1] = some y1 := by
    have this : DataW.trod enc Try.prog W 0 (fun _ => true) true n 3 ((List.drop 1 [c0, c1, c2, c3, c4, c5, c6, c7, c8]).take (Try.prog.cellsOf 3)) = xs[1]? := hfi 1 _ rfl
    rw [Try.cellsI] at this
    rw [← hy1]; exact this
  obtain ⟨y2, hy2⟩ := hx 2 (by decide)
  have g2 : DataW.trod enc Try.prog W 0 (fun _ => true) true n 3 [c2] = some y2 := by
    have this : DataW.trod enc Try.prog W 0 (fun _ => true) true n 3 ((List.drop 2 [c0, c1, c2, c3, c4, c5, c6, c7, c8]).take (Try.prog.cellsOf 3)) = xs[2]? := hfi 2 _ rfl
    rw [Try.cellsI] at this
    rw [← hy2]; exact this
  obtain ⟨y3, hy3⟩ := hx 3 (by decide)
  have g3 : DataW.trod enc Try.prog W 0 (fun _ => true) true n 3 [c3] = some y3 := by
    have this : DataW.trod enc Try.prog W 0 (fun _ => true) true n 3 ((List.drop 3 [c0, c1, c2, c3, c4, c5, c6, c7, c8]).take (Try.prog.cellsOf 3)) = xs[3]? := hfi 3 _ rfl
    rw [Try.cellsI] at this
    rw [← hy3]; exact this
  obtain ⟨y4, hy4⟩ := hx 4 (by decide)
  have g4 : DataW.trod enc Try.prog W 0 (fun _ => true) true n 3 [c4] = some y4 := by
    have this : DataW.trod enc Try.prog W 0 (fun _ => true) true n 3 ((List.drop 4 [c0, c1, c2, c3, c4, c5, c6, c7, c8]).take (Try.prog.cellsOf 3)) = xs[4]? := hfi 4 _ rfl
    rw [Try.cellsI] at this
    rw [← hy4]; exact this
  obtain ⟨y5, hy5⟩ := hx 5 (by decide)
  have g5 : DataW.trod enc Try.prog W 0 (fun _ => true) true n 9 [c5] = some y5 := by
    have this : DataW.trod enc Try.prog W 0 (fun _ => true) true n 9 ((List.drop 5 [c0, c1, c2, c3, c4, c5, c6, c7, c8]).take (Try.prog.cellsOf 9)) = xs[5]? := hfi 5 _ rfl
    rw [Try.cellsS] at this
    rw [← hy5]; exact this
  obtain ⟨y6, hy6⟩ := hx 6 (by decide)
  have g6 : DataW.trod enc Try.prog W 0 (fun _ => true) true n 9 [c6] = some y6 := by
    have this : DataW.trod enc Try.prog W 0 (fun _ => true) true n 9 ((List.drop 6 [c0, c1, c2, c3, c4, c5, c6, c7, c8]).take (Try.prog.cellsOf 9)) = xs[6]? := hfi 6 _ rfl
    rw [Try.cellsS] at this
    rw [← hy6]; exact this
  obtain ⟨y7, hy7⟩ := hx 7 (by decide)
  have g7 : DataW.trod enc Try.prog W 0 (fun _ => true) true n 31 [c7, c8] = some y7 := by
    have this : DataW.trod enc Try.prog W 0 (fun _ => true) true n 31 ((List.drop 7 [c0, c1, c2, c3, c4, c5, c6, c7, c8]).take (Try.prog.cellsOf 31)) = xs[7]? := hfi 7 _ rfl
    rw [Try.cellsA] at this
    rw [← hy7]; exact this
  obtain ⟨z0, e0, _, _⟩ := DataW.trod_int Try.underlying3 g0
  obtain ⟨z1, e1, _, _⟩ := DataW.trod_int Try.underlying3 g1
  obtain ⟨z2, e2, _, _⟩ := DataW.trod_int Try.underlying3 g2
  obtain ⟨z3, e3, _, _⟩ := DataW.trod_int Try.underlying3 g3
  obtain ⟨z4, e4, _, _⟩ := DataW.trod_int Try.underlying3 g4
  obtain ⟨z5, e5, _, _⟩ := DataW.trod_string Try.underlying9 g5
  obtain ⟨z6, e6, f6, _⟩ := DataW.trod_string Try.underlying9 g6
  obtain ⟨us, n2, _, _, hl2, hlen2, hfi2⟩ := DataW.trod_struct Try.underlying31 g7
  have hu : ∀ i, i < 2 → ∃ y, us[i]? = some y := fun i hi => ⟨us[i]'(by rw [hlen2]; exact hi), List.getElem?_eq_getElem _⟩
  obtain ⟨u0, hu0⟩ := hu 0 (by decide)
  obtain ⟨u1, hu1⟩ := hu 1 (by decide)
  have k0 : DataW.trod enc Try.prog W 0 (fun _ => true) true n2 3 [c7] = some u0 := by
    have this : DataW.trod enc Try.prog W 0 (fun _ => true) true n2 3 ((List.drop 0 [c7, c8]).take (Try.prog.cellsOf 3)) = us[0]? := hfi2 0 _ rfl
    rw [Try.cellsI] at this
    rw [← hu0]; exact this
  have k1 : DataW.trod enc Try.prog W 0 (fun _ => true) true n2 3 [c8] = some u1 := by
    have this : DataW.trod enc Try.prog W 0 (fun _ => true) true n2 3 ((List.drop 1 [c7, c8]).take (Try.prog.cellsOf 3)) = us[1]? := hfi2 1 _ rfl
    rw [Try.cellsI] at this
    rw [← hu1]; exact this
  obtain ⟨r0, er0, _, _⟩ := DataW.trod_int Try.underlying3 k0
  obtain ⟨r1, er1, _, _⟩ := DataW.trod_int Try.underlying3 k1
  simp only [List.cons.injEq, and_true] at e0 e1 e2 e3 e4 e5 e6 er0 er1
  refine ⟨⟨z0, z1, z2, z3, z4, z5, z6, r0, r1⟩, by rw [e0, e1, e2, e3, e4, e5, e6, er0, er1]; rfl, ?_⟩
  have h1 := hw z6.data.toList.length (by
    rw [hxx]
    simp only [DataW.weights, Try.underlying33]
    refine DataW.weights_mem_each (j := 6) rfl (by rw [List.getElem?_map, hy6]; rfl) _ ?_
    rw [f6]
    simp [DataW.weights])
  simp only [reachBytes] at h1
  show z6.size ≤ _
  have h2 : z6.size = z6.data.toList.length := by simp
  omega
set_option maxRecDepth 20000 in
/-- a slice of calls, opened -/
theorem ops_at {W : World} {n : Nat} {v : Value} {x : DataW H × List MemPlace} (h : DataW.trod enc Try.prog W 0 (fun _ => true) true n 22 [v] = some x) (hw : ∀ k ∈ x.1.weights Try.prog 22, k ≤ reachBytes) :
    ∃ (ad : Option Addr) (cap ab ao : Nat) (l : List Oc), v = .slice ad l.length cap ∧ Or W ad ab ao l ∧ l.length ≤ 1599289640356 := by
  rcases open_slice (cs := [v]) Try.underlying22 h with ⟨hc, _⟩ | ⟨a, len, cap, m, k, D, Pl, hc, _, hl, hm, hmm, hx, hall⟩
  · simp only [List.cons.injEq, and_true] at hc
    exact ⟨none, 0, 0, 0, [], hc, ⟨fun h => absurd h (by simp), fun i h => absurd h (by simp), fun i h => absurd h (by simp)⟩, by simp⟩
  · simp only [List.cons.injEq, and_true] at hc
    simp only [if_true] at hmm
    subst hmm
    have hle : len ≤ 1599289640356 := by
      have := hw (len * 88 + (m - len) * 88) (by
        rw [hx]; simp only [DataW.weights, Try.underlying22, Try.bytesOc]
        simp only [List.length_map, List.length_range, List.mem_cons]
        left; rw [Nat.add_mul])
      simp only [reachBytes] at this; omega
    have each : ∀ i, i < len → ∃ q : Oc, (∀ k, k < 9 → W.cell? (a.add (i * 9 + k)) = q.cs[k]?) ∧ q.da.size ≤ 140737488355328 := by
      intro i hi
      obtain ⟨cs', g1, g2⟩ := hall i (by omega)
      rw [Try.cellsOc] at g1
      obtain ⟨_, hlen, hcell⟩ := World.cells?_some g1
      obtain ⟨q, rfl, hq⟩ := op_at g2 (fun k hk => hw k (by
        rw [hx]; simp only [DataW.weights, Try.underlying22]
        refine List.mem_cons_of_mem _ (List.mem_append_left _ (weights_all_mem (d := D i) ?_ k hk))
        exact List.mem_map.mpr ⟨i, List.mem_range.mpr hi, rfl⟩))
      refine ⟨q, fun k hk => ?_, hq⟩
      have hck := hcell k (by simpa using hk)
      rw [add_add] at hck
      exact hck
    have hI : Inhabited Oc := ⟨⟨0, 0, 0, 0, 0, ByteArray.empty, ByteArray.empty, 0, 0⟩⟩
    obtain ⟨q, hq⟩ := choose_lt each
    have hspot : 0 < len → a = ⟨a.block, a.off, none⟩ := fun h0 => by
      have h1 := (hq 0 h0).1 0 (by decide)
      obtain ⟨ab, ao, spot⟩ := a
      have : spot = none := by simpa [Addr.add] using World.cell?_spot h1
      rw [this]
    refine ⟨some a, m, a.block, a.off, (List.range len).map q, by rw [range_len]; exact hc, ⟨fun h => ?_, fun i hi k hk => ?_, fun i hi => ?_⟩, by rw [range_len]; exact hle⟩
    · rw [range_len] at h; rw [← hspot h]
    · have hi' := hi
      rw [range_len] at hi'
      rw [range_get]
      have h1 := (hq i hi').1 k hk
      rw [hspot (by omega), Addr.add_lit] at h1
      rw [Nat.add_assoc]
      exact h1
    · have hi' := hi
      rw [range_len] at hi'
      rw [range_get]
      exact (hq i hi').2
end
end Go.Proofs.Ytamonfeniheghaa.K

namespace Go.Proofs.Ytamonfeniheghaa.K
open Go.RowKit Go.MapKept Go.Shelf
set_option maxRecDepth 20000

/-- texts that are read -/
structure Tr (w : World) (ad : Option Addr) (ab : Nat) (L : List ByteArray) : Prop where
  at_ : 0 < L.length → ad = some ⟨ab, 0, none⟩
  c : ∀ i (h : i < L.length), w.cell? ⟨ab, i, none⟩ = some (.string L[i])
theorem own_tr {w : World} {base cap : Nat} {ad : Option Addr} {L : List ByteArray} (h : w.ownsRow base 9 1 (.slice ad L.length cap) L.length (tcs L)) : ∃ ab, Tr w ad ab L := by
  rcases own_form h with ⟨h1, h0⟩ | ⟨g, cap', h1, hg⟩
  · exact ⟨0, fun h => absurd h (by omega), fun i h => absurd h (by omega)⟩
  · injection h1 with h1 h2 h3
    subst h1
    refine ⟨g, fun _ => rfl, fun i hi => ?_⟩
    have := h.cells (g := g) rfl i (.string L[i]) (by simp [tcs, hi])
    rw [Addr.add_lit, Nat.zero_add] at this
    exact this
theorem Tr.drew {w : World} {ad : Option Addr} {ab : Nat} {L : List ByteArray} (h : Tr w ad ab L) (n : Nat) : Tr (w.drewN n) ad ab L := ⟨h.at_, h.c⟩
set_option maxHeartbeats 1000000 in
theorem texts_true {w : World} {ad ad' : Option Addr} {ab ab' cap cap' : Nat} {l : List ByteArray} (h : Tr w ad ab l) (h' : Tr w ad' ab' l) (hl : l.length ≤ 8796093021952) :
    Calls Try.prog 12 #[.slice ad l.length cap, .slice ad' l.length cap'] w fun e w' => e = .returned (.bool true) ∧ ∃ n, w' = w.drewN n := by
  go_enter Try.func12, Try.ntmps12
  go_wp2
  go_loopw [5] (fun u wr => ∃ i n : Nat, u = .int .i64 (i : Int) ∧ i ≤ l.length ∧ wr = w.drewN n) (fun u _ => (l.length - (intOf u).toNat))
  case atStart => exact ⟨0, 0, rfl, Nat.zero_le _, rfl⟩
  case round =>
    obtain ⟨i, n, rfl, hi, rfl⟩ := hrel
    by_cases hil : i < l.length
    · have ea := h.at_ (by omega)
      have ea' := h'.at_ (by omega)
      have c0 := h.c i hil
      have c1 := h'.c i hil
      generalize l[i] = s at c0 c1
      subst ea; subst ea'
      have H := hide h
      have H' := hide h'
      clear h h'
      go_wp2
      go_quiet (fail)
      go_wp2
      exact ⟨⟨i + 1, _, by go_num, by omega, rfl⟩, by simp [intOf]; omega⟩
    · obtain rfl : i = l.length := by omega
      clear h h'
      go_wp2
      go_ret
      exact ⟨rfl, _, rfl⟩
def upd (s : St) (j : Int) (p : Int × List ByteArray) : St := fun i => if i = j then p else s i
/-- what an admission says -/
theorem adm_facts {s : St} {j b x : Int} {t : ByteArray} (h : adm s j b x t = true) : 1 ≤ j ∧ j ≤ 8 ∧ 1 ≤ b ∧ b ≤ 1099511627776 ∧ (s j).1 ≤ b ∧ x ≤ 16 ∧
    (((s j).1 < b ∧ x = 0 ∧ t = ⟨#[]⟩ ∧ nxt s j b x t = upd s j (b, [])) ∨ ((s j).1 = b ∧ x = (s j).2.length + 1 ∧ nxt s j b x t = upd s j (b, (s j).2 ++ [t]))) := by
  have hn : nxt s j b x t = upd s j (b, if x = 0 then [] else (s j).2 ++ [t]) := if_pos h
  unfold adm at h
  simp only [decide_eq_true_eq] at h
  obtain ⟨h1, h2⟩ := h
  unfold pe at h1
  by_cases c1 : j < 1 ∨ 8 < j
  · rw [if_pos c1] at h1; cases h1
  rw [if_neg c1] at h1
  by_cases c2 : 32 < t.size ∨ (x = 0 ∧ t.size ≠ 0)
  · rw [if_pos c2] at h1; cases h1
  rw [if_neg c2] at h1
  by_cases c3 : b < 1 ∨ 1099511627776 < b ∨ b < (s j).1
  · rw [if_pos c3] at h1; cases h1
  rw [if_neg c3] at h1
  by_cases c4 : x < 0 ∨ 16 < x ∨ cnt s j b < x
  · rw [if_pos c4] at h1; cases h1
  clear h1
  refine ⟨by omega, by omega, by omega, by omega, by omega, by omega, ?_⟩
  unfold cnt at h2
  by_cases e : (s j).1 = b
  · rw [if_pos ⟨by omega, e⟩] at h2
    refine .inr ⟨e, h2, ?_⟩
    rw [hn, if_neg (by omega)]
  · rw [if_neg (fun h => e h.2)] at h2
    refine .inl ⟨by omega, h2, size_nil (by omega), ?_⟩
    rw [hn, if_pos h2]

/-- what a law has seen -/
structure Al (w : World) (a : Nat) (s : St) (vs : Nat → Value) : Prop where
  blk : ∃ cur : Array Value, w.heap[a]? = some (.cells cur 29 (0, 0)) ∧ cur.size = 18 ∧ ∀ j, j < 9 → cur[j * 2]? = some (.int .i64 (s j).1) ∧ cur[j * 2 + 1]? = some (vs j)
  row : ∀ j : Nat, j < 9 → w.ownsRow 0 9 1 (vs j) (s j).2.length (tcs (s j).2)
  apart : ∀ i, i < 9 → ∀ j, j < 9 → i ≠ j → ∀ k, (vs i).ownBlock = some k → (vs j).ownBlock ≠ some k
section
variable {w w' : World} {a : Nat} {s : St} {vs : Nat → Value}
theorem Al.lt (h : Al w a s vs) : a < w.heap.size := by
  obtain ⟨cur, h1, _⟩ := h.blk
  exact lt_blk h1
theorem Al.keep (h : Al w a s vs) (ha : w'.heap[a]? = w.heap[a]?) (hv : ∀ j, j < 9 → ∀ k, (vs j).ownBlock = some k → w'.heap[k]? = w.heap[k]?) : Al w' a s vs := by
  obtain ⟨cur, h1, h2⟩ := h.blk
  exact ⟨⟨cur, ha.trans h1, h2⟩, fun j hj => own_keep (h.row j hj) (hv j hj), h.apart⟩
theorem Al.c (h : Al w a s vs) {j : Nat} (hj : j < 9) : w.cell? ⟨a, j * 2, none⟩ = some (.int .i64 (s j).1) ∧ w.cell? ⟨a, j * 2 + 1, none⟩ = some (vs j) ∧ ∀ k, w.frozen? ⟨a, k, none⟩ = false := by
  obtain ⟨cur, h1, _, h2⟩ := h.blk
  refine ⟨?_, ?_, fun k => ?_⟩
  · rw [cell_of_row w a _ cur _ _ h1]; exact (h2 j hj).1
  · rw [cell_of_row w a _ cur _ _ h1]; exact (h2 j hj).2
  · simp [World.frozen?, h1]
def updv (vs : Nat → Value) (j : Nat) (v : Value) : Nat → Value := fun i => if i = j then v else vs i
/-- a cell of it is set anew -/
theorem Al.set (h : Al w a s vs) {j : Nat} (hj : j < 9) (g : Int) (v : Value) (ps : List ByteArray) (hv : w.ownsRow 0 9 1 v ps.length (tcs ps)) (hap : ∀ i, i < 9 → i ≠ j → ∀ k, v.ownBlock = some k → (vs i).ownBlock ≠ some k)
    (hw : w'.heap[a]? = some (.cells ((match w.heap[a]? with | some (.cells cur _ _) => cur | _ => #[]).setIfInBounds (j * 2) (.int .i64 g) |>.setIfInBounds (j * 2 + 1) v) 29 (0, 0))) (ho : ∀ k, k ≠ a → w'.heap[k]? = w.heap[k]?) : Al w' a (upd s j (g, ps)) (updv vs j v) := by
  obtain ⟨cur, h1, h2, h3⟩ := h.blk
  rw [h1] at hw
  simp only at hw
  have hrow : ∀ {n : Nat} {u : Value} {xs : List Value}, w.ownsRow 0 9 1 u n xs → w'.ownsRow 0 9 1 u n xs := fun hu => own_keep hu fun k e => ho k (own_ne hu h1 (by decide) k e)
  refine ⟨⟨_, hw, by simp [h2], fun i hi => ?_⟩, fun i hi => ?_, fun i hi i' hi' hne k hk => ?_⟩
  · unfold upd updv
    by_cases e : i = j
    · subst e
      rw [if_pos rfl, if_pos rfl]
      constructor
      · rw [Array.getElem?_setIfInBounds, if_neg (by omega), Array.getElem?_setIfInBounds, if_pos rfl, if_pos (by omega)]
      · rw [Array.getElem?_setIfInBounds, if_pos rfl, if_pos (by simp; omega)]
    · rw [if_neg (by omega), if_neg e]
      have := h3 i hi
      constructor
      · rw [Array.getElem?_setIfInBounds, if_neg (by omega), Array.getElem?_setIfInBounds, if_neg (by omega)]
        exact this.1
      · rw [Array.getElem?_setIfInBounds, if_neg (by omega), Array.getElem?_setIfInBounds, if_neg (by omega)]
        exact this.2
  · unfold upd updv
    by_cases e : i = j
    · subst e
      rw [if_pos rfl, if_pos rfl]
      exact hrow hv
    · rw [if_neg e, if_neg (by omega)]
      exact hrow (h.row i hi)
  · unfold updv at hk ⊢
    by_cases e : i = j
    · rw [if_pos e] at hk
      rw [if_neg (by omega)]
      exact hap i' hi' (by omega) k hk
    · rw [if_neg e] at hk
      by_cases e' : i' = j
      · rw [if_pos e']
        exact fun h4 => hap i hi e k h4 hk
      · rw [if_neg e']
        exact h.apart i hi i' hi' hne k hk
end
/-- the law's state -/
structure Ro (w : World) (a b : Nat) (T : List Ev) (s s0 : St) (F : Nat → Prop) (vs : Nat → Value) (wr : World) : Prop where
  sk : Sk wr b s T F
  al : Al wr a s0 vs
  lo : ∀ k, F k → w.heap.size ≤ k
  low : Below w.heap.size w wr
  ha : w.heap.size ≤ a ∧ ¬ F a
  hv : ∀ j, j < 9 → ∀ k, (vs j).ownBlock = some k → w.heap.size ≤ k ∧ ¬ F k
section
variable {w wr w2 : World} {a b : Nat} {T T' : List Ev} {s s0 s' : St} {F : Nat → Prop} {vs : Nat → Value}
theorem Ro.step (h : Ro w a b T s s0 F vs wr) (hg : Gp F b s' T' wr w2) : ∃ F', Ro w a b T' s' s0 F' vs w2 := by
  obtain ⟨F', h1, h2, h3⟩ := hg
  have hsz := h.low.size
  have hal := h.al.lt
  refine ⟨F', h1, h.al.keep (h2.block a hal h.ha.2) (fun j hj k e => h2.block k ((h.al.row j hj).lt k e).2 (h.hv j hj k e).2), fun k hk => ?_, ?_, ⟨h.ha.1, fun hf => ?_⟩, fun j hj k e => ⟨(h.hv j hj k e).1, fun hf => ?_⟩⟩
  · rcases h3 k hk with h4 | h4
    · exact h.lo k h4
    · omega
  · exact ⟨h2.os.trans h.low.os, h2.tape.trans h.low.tape, h2.output.trans h.low.output, Nat.le_trans hsz h2.size, fun k hk => (h2.block k (by omega) (fun hf => by have := h.lo k hf; omega)).trans (h.low.block k hk)⟩
  · rcases h3 a hf with h4 | h4
    · exact h.ha.2 h4
    · omega
  · rcases h3 k hf with h4 | h4
    · exact (h.hv j hj k e).2 h4
    · have := ((h.al.row j hj).lt k e).2; omega
theorem Ro.below (h : Ro w a b T s s0 F vs wr) (hb : Below wr.heap.size wr w2) : Ro w a b T s s0 F vs w2 := by
  have hsz := h.low.size
  exact ⟨h.sk.below hb, h.al.keep (hb.block a h.al.lt) (fun j hj k e => hb.block k ((h.al.row j hj).lt k e).2), h.lo, h.low.trans (hb.mono hsz), h.ha, h.hv⟩
/-- its array is set anew -/
theorem Ro.set (h : Ro w a b T s s0 F vs wr) {j : Nat} (hj : j < 9) (g : Int) (v : Value) (ps : List ByteArray) (hv : wr.ownsRow 0 9 1 v ps.length (tcs ps)) (hap : ∀ i, i < 9 → i ≠ j → ∀ k, v.ownBlock = some k → (vs i).ownBlock ≠ some k)
    (hf : ∀ k, v.ownBlock = some k → w.heap.size ≤ k ∧ ¬ F k) (hsz : w2.heap.size = wr.heap.size) (hos : w2.os = wr.os ∧ w2.tape = wr.tape ∧ w2.output = wr.output)
    (hw : w2.heap[a]? = some (.cells ((match wr.heap[a]? with | some (.cells cur _ _) => cur | _ => #[]).setIfInBounds (j * 2) (.int .i64 g) |>.setIfInBounds (j * 2 + 1) v) 29 (0, 0))) (ho : ∀ k, k ≠ a → w2.heap[k]? = wr.heap[k]?) : Ro w a b T s (upd s0 j (g, ps)) F (updv vs j v) w2 := by
  refine ⟨h.sk.keep fun k hk => ho k (fun e => h.ha.2 (by rw [← e]; exact hk)), h.al.set hj g v ps hv hap hw ho, h.lo, ?_, h.ha, fun i hi k e => ?_⟩
  · have h1 := h.low
    exact ⟨hos.1.trans h1.os, hos.2.1.trans h1.tape, hos.2.2.trans h1.output, by rw [hsz]; exact h1.size, fun k hk => (ho k (by have := h.ha.1; omega)).trans (h1.block k hk)⟩
  · unfold updv at e
    by_cases e1 : i = j
    · rw [if_pos e1] at e; exact hf k e
    · rw [if_neg e1] at e; exact h.hv i hi k e
/-- the claim: a badge, and no pieces -/
theorem Ro.claim (h : Ro w a b T s s0 F vs wr) {j : Nat} (hj : j < 9) (g : Int) : Ro w a b T s (upd s0 j (g, [])) F (updv vs j (.slice none 0 0)) ((wr.setCell ⟨a, j * 2, none⟩ (.int .i64 g)).setCell ⟨a, j * 2 + 1, none⟩ (.slice none 0 0)) := by
  obtain ⟨cur, h1, _⟩ := h.al.blk
  refine h.set hj g _ [] (World.ownsRow_nil _ _ _ _) (fun i _ _ k e => by cases e) (fun k e => by cases e) (by simp [World.setCell]) ⟨rfl, rfl, rfl⟩ ?_ (fun k hk => by simp [World.setCell, Array.getElem?_modify, Ne.symm hk])
  simp [World.setCell, Array.getElem?_modify, h1]
theorem setI_self {α : Type} {cur : Array α} {i : Nat} {v : α} (h : cur[i]? = some v) : cur.setIfInBounds i v = cur := by
  apply Array.ext_getElem?
  intro k
  rw [Array.getElem?_setIfInBounds]
  by_cases e : i = k
  · subst e
    rw [if_pos rfl, h]
    have := (Array.getElem?_eq_some_iff.1 h).1
    rw [if_pos this]
  · rw [if_neg e]
/-- a piece more -/
theorem Ro.piece (h : Ro w a b T s s0 F vs wr) {j : Nat} (hj : j < 9) (v : Value) (ps : List ByteArray) (hv : wr.ownsRow 0 9 1 v ps.length (tcs ps)) (hap : ∀ i, i < 9 → i ≠ j → ∀ k, v.ownBlock = some k → (vs i).ownBlock ≠ some k)
    (hf : ∀ k, v.ownBlock = some k → w.heap.size ≤ k ∧ ¬ F k) : Ro w a b T s (upd s0 j ((s0 j).1, ps)) F (updv vs j v) (wr.setCell ⟨a, j * 2 + 1, none⟩ v) := by
  obtain ⟨cur, h1, _, h3⟩ := h.al.blk
  refine h.set hj (s0 j).1 v ps hv hap hf (by simp [World.setCell]) ⟨rfl, rfl, rfl⟩ ?_ (fun k hk => by simp [World.setCell, Array.getElem?_modify, Ne.symm hk])
  rw [h1]
  simp only
  rw [setI_self (h3 j hj).1]
  simp [World.setCell, Array.getElem?_modify, h1]
end
/-- an op's answer -/
def nws (s : St) (o : Oc) : List Ev := if o.k = 2 then hnw s o.da else news s o.job o.bdg o.idx o.tx
def nst (s : St) (o : Oc) : St := if o.k = 2 then hst s o.da else nxt s o.job o.bdg o.idx o.tx
theorem news_or (s : St) (j b x : Int) (t : ByteArray) : (news s j b x t = [] ∧ nxt s j b x t = s) ∨ (adm s j b x t = true ∧ news s j b x t = [⟨j, b, x, t⟩]) := by
  unfold news nxt
  cases h : adm s j b x t with
  | true => exact .inr ⟨rfl, rfl⟩
  | false => exact .inl ⟨rfl, rfl⟩
theorem nws_or (s : St) (o : Oc) : (nws s o = [] ∧ nst s o = s) ∨ ∃ e : Ev, adm s e.job e.bdg e.idx e.tx = true ∧ nws s o = [e] ∧ nst s o = nxt s e.job e.bdg e.idx e.tx := by
  unfold nws nst
  by_cases hk : o.k = 2
  · rw [if_pos hk, if_pos hk]
    unfold hnw hst
    by_cases hp : isPut o.da = true
    · rw [if_pos hp, if_pos hp]
      rcases news_or s (hm o.da).jo (hm o.da).ba (hm o.da).ix (hm o.da).tx with h | ⟨h1, h2⟩
      · exact .inl h
      · exact .inr ⟨_, h1, h2, rfl⟩
    · rw [if_neg hp, if_neg hp]
      exact .inl ⟨rfl, rfl⟩
  · rw [if_neg hk, if_neg hk]
    rcases news_or s o.job o.bdg o.idx o.tx with h | ⟨h1, h2⟩
    · exact .inl h
    · exact .inr ⟨_, h1, h2, rfl⟩
end Go.Proofs.Ytamonfeniheghaa.K

namespace Go.Proofs.Ytamonfeniheghaa.K
open Go.RowKit Go.MapKept Go.Shelf
set_option maxRecDepth 20000

theorem wp_append_two {P : Program} {w : World} {o : Oper} {a : Act} {K : Act → World → Prop} {Q : Exit → Act → World → Prop} (s x : Operand) (t : TypeId)
    (ho : o.op = .call { callee := .builtin .append, args := #[s, x], argTypes := #[t, t] })
    (base : Nat) (e : TypeId) (i : TypeInfo) (z : Value) (size bytes : Nat) (ht : P.underlying t = some (.slice e)) (hi : P.info? e = some i) (hz : i.zero = some z)
    (hsize : i.size = size) (hby : i.bytes = bytes) (hzs : z.cells.size = size) (hsz : 0 < size)
    (v : Value) (n : Nat) (xs : List Value) (hs : a.eval s = v) (hown : w.ownsRow base e size v n xs)
    (ad : Addr) (m c : Nat) (news : List Value) (hm : 0 < m) (hx : a.eval x = .slice (some ad) m c) (hl : news.length = m * size) (hnews : ∀ j u, news[j]? = some u → w.cell? (ad.add j) = some u) (h1 : ∀ u ∈ news, u.oneCell' = true)
    (h63 : n + m ≤ maxLen) (hbytes : (n + m) * bytes ≤ 140737488355328) (hbase : base ≤ w.heap.size)
    (h : ∀ v' w', w'.ownsRow base e size v' (n + m) (xs ++ news) → w.grownBy w' v.ownBlock → (v'.ownBlock = v.ownBlock ∨ (v'.ownBlock = some w.heap.size ∧ w.grownBy w' none)) → K (a.put o.dst v') w') : o.wp P a w K Q := by
  obtain ⟨v', w', hr, h2, h3, h4⟩ := run_append_two (P := P) w base t o.type e i z size bytes ht hi hz hsize hby hzs hsz v n xs hown ad m c news hm hl hnews h1 h63 hbytes hbase
  unfold Oper.wp execOp
  simp only [ho, resolve, invoke, builtin, Sem.run_bind, Sem.run_pure, Result.andThen_ok, List.map_toArray, List.map_cons, List.map_nil, hs, hx, hr]
  exact h v' w' h2 h3 h4
section
variable {w wr w9 : World} {a b : Nat} {T : List Ev} {s s0 : St} {F : Nat → Prop} {vs : Nat → Value}
/-- an append to one of its rows: the array is as it was -/
theorem Ro.at9 (h : Ro w a b T s s0 F vs wr) {j : Nat} (hj : j < 9) (hg : wr.grownBy w9 (vs j).ownBlock) : w9.heap[a]? = wr.heap[a]? :=
  hg.block a h.al.lt fun e => by
    obtain ⟨cur, h1, _⟩ := h.al.blk
    exact own_ne (h.al.row j hj) h1 (by decide) a e.symm rfl
theorem Ro.append (h : Ro w a b T s s0 F vs wr) {j : Nat} (hj : j < 9) {v : Value} {ps : List ByteArray} (hv : w9.ownsRow 0 9 1 v ps.length (tcs ps)) (hg : wr.grownBy w9 (vs j).ownBlock) (htwo : v.ownBlock = (vs j).ownBlock ∨ (v.ownBlock = some wr.heap.size ∧ wr.grownBy w9 none)) :
    Ro w a b T s (upd s0 j ((s0 j).1, ps)) F (updv vs j v) (w9.setCell ⟨a, j * 2 + 1, none⟩ v) := by
  have ha9 := h.at9 hj hg
  have hsz := h.low.size
  have hset : ∀ k, k ≠ a → (w9.setCell ⟨a, j * 2 + 1, none⟩ v).heap[k]? = w9.heap[k]? := fun k hk => by simp [World.setCell, Array.getElem?_modify, Ne.symm hk]
  obtain ⟨cur, c1, c2, c3⟩ := h.al.blk
  have hold : ∀ i, i < 9 → i ≠ j → w9.ownsRow 0 9 1 (vs i) (s0 i).2.length (tcs (s0 i).2) := fun i hi hne => own_keep (h.al.row i hi) fun k e => hg.block k ((h.al.row i hi).lt k e).2 (fun e2 => h.al.apart i hi j hj hne k e e2.symm)
  have hto : ∀ {n : Nat} {u : Value} {xs : List Value}, w9.ownsRow 0 9 1 u n xs → (w9.setCell ⟨a, j * 2 + 1, none⟩ v).ownsRow 0 9 1 u n xs := fun hu => own_keep hu fun k e => hset k (own_ne hu (ha9.trans c1) (by decide) k e)
  have hvk : ∀ k, v.ownBlock = some k → ((vs j).ownBlock = some k ∨ k = wr.heap.size) := fun k e => by
    rcases htwo with h1 | ⟨h1, _⟩
    · exact .inl (h1.symm.trans e)
    · rw [e] at h1; injection h1 with h1; exact .inr h1
  refine ⟨h.sk.keep fun k hk => (hset k (fun e => h.ha.2 (by rw [← e]; exact hk))).trans (hg.block k (h.sk.lt k hk) (fun e => (h.hv j hj k e.symm).2 hk)), ⟨⟨cur.setIfInBounds (j * 2 + 1) v, ?_, by simp [c2], fun i hi => ?_⟩, fun i hi => ?_, fun i hi i' hi' hne k hk => ?_⟩, h.lo, ?_, h.ha, fun i hi k e => ?_⟩
  · simp [World.setCell, Array.getElem?_modify, ha9.trans c1]
  · unfold upd updv
    have := c3 i hi
    by_cases e : i = j
    · subst e
      rw [if_pos rfl, if_pos rfl]
      constructor
      · rw [Array.getElem?_setIfInBounds, if_neg (by omega)]; exact this.1
      · rw [Array.getElem?_setIfInBounds, if_pos rfl, if_pos (by omega)]
    · rw [if_neg (by omega), if_neg e]
      constructor
      · rw [Array.getElem?_setIfInBounds, if_neg (by omega)]; exact this.1
      · rw [Array.getElem?_setIfInBounds, if_neg (by omega)]; exact this.2
  · unfold upd updv
    by_cases e : i = j
    · subst e
      rw [if_pos rfl, if_pos rfl]
      exact hto hv
    · rw [if_neg e, if_neg (by omega)]
      exact hto (hold i hi e)
  · unfold updv at hk ⊢
    have hlt : ∀ i, i < 9 → (vs i).ownBlock ≠ some wr.heap.size := fun i hi e => by have := ((h.al.row i hi).lt _ e).2; omega
    by_cases e : i = j
    · rw [if_pos e] at hk
      rw [if_neg (by omega)]
      rcases hvk k hk with h1 | h1
      · exact h.al.apart j hj i' hi' (by omega) k h1
      · rw [h1]; exact hlt i' hi'
    · rw [if_neg e] at hk
      by_cases e' : i' = j
      · rw [if_pos e']
        intro h4
        rcases hvk k h4 with h1 | h1
        · exact h.al.apart i hi j hj e k hk h1
        · rw [h1] at hk; exact hlt i hi hk
      · rw [if_neg e']
        exact h.al.apart i hi i' hi' hne k hk
  · have h1 := h.low
    refine (h1.grown hg hsz (fun k e => (h.hv j hj k e).1)).setCell (p := ⟨a, j * 2 + 1, none⟩) h.ha.1 _
  · unfold updv at e
    by_cases e1 : i = j
    · rw [if_pos e1] at e
      rcases hvk k e with h1 | h1
      · exact h.hv j hj k h1
      · exact ⟨by omega, fun hf => by have := h.sk.lt k hf; omega⟩
    · rw [if_neg e1] at e; exact h.hv i hi k e
theorem Ro.app2 (h : Ro w a b T s s0 F vs wr) {j : Nat} (hj : j < 9) {W : World} {v0 v : Value} {t : ByteArray} (hg : W.grownBy w9 v0.ownBlock) (hv0 : vs j = v0) (hW : Below wr.heap.size wr W) (hv : w9.ownsRow 0 9 1 v ((s0 j).2.length + 1) (tcs (s0 j).2 ++ [.string t])) (htwo : v.ownBlock = v0.ownBlock ∨ (v.ownBlock = some W.heap.size ∧ W.grownBy w9 none)) :
    Ro w a b T s (upd s0 j ((s0 j).1, (s0 j).2 ++ [t])) F (updv vs j v) (w9.setCell ⟨a, j * 2 + 1, none⟩ v) ∧ w9.cell? ⟨a, j * 2 + 1, none⟩ = some v0 ∧ w9.frozen? ⟨a, j * 2 + 1, none⟩ = false := by
  subst hv0
  have h1 := h.below hW
  have ha := h1.at9 hj hg
  obtain ⟨c0, c1, cz⟩ := h1.al.c hj
  refine ⟨h1.append hj (by rw [tcs_snoc, List.length_append]; exact hv) hg htwo, (World.cell?_of_block ha).trans c1, ?_⟩
  obtain ⟨cur, c2, _⟩ := h1.al.blk
  simp [World.frozen?, ha.trans c2]
end
theorem ev_of {w : World} {B : Nat} {e : Ev} (h : w.heap[B]? = some (.cells (Ev.cs e).toArray 45 (0, 0))) : w.cell? ⟨B, 4, none⟩ = some (.int .i64 e.job) ∧ w.cell? ⟨B, 11, none⟩ = some (.string e.tx) := by
  simp [World.cell?, h, Ev.cs]
theorem set_other (w : World) {a o k : Nat} (v : Value) (h : k ≠ a) : (w.setCell ⟨a, o, none⟩ v).heap[k]? = w.heap[k]? := by simp [World.setCell, Array.getElem?_modify, Ne.symm h]
theorem below_up {w W : World} {o : Obj} (h : W.heap = w.heap ∧ W.os = w.os ∧ W.tape = w.tape ∧ W.output = w.output) : Below w.heap.size w (W.alloc o) := by
  obtain ⟨h1, h2, h3, h4⟩ := h
  refine ⟨h2, h3, h4, by simp [h1], fun k hk => ?_⟩
  have := (below_alloc W o).block k (by rw [h1]; exact hk)
  rw [h1] at this
  exact this
end Go.Proofs.Ytamonfeniheghaa.K

namespace Go.Proofs.Ytamonfeniheghaa.K
open Go.RowKit Go.MapKept Go.Shelf
set_option maxRecDepth 20000

set_option maxHeartbeats 20000000 in
theorem sinkRises_walk {w : World} {ad : Option Addr} {cap ab ao : Nat} {L : List Oc} (hO : Or w ad ab ao L) (hl : L.length ≤ 1599289640356) :
    Calls Try.prog 3 #[.slice ad L.length cap] w fun e w' => e = .returned (.bool true) ∧ Below w.heap.size w w' := by
  have HO := hide hO
  obtain ⟨iS, hiS, zS0, zS1, zS2⟩ := info_parts Try.infoS
  clear hO
  go_enter Try.func3, Try.ntmps3
  go_wp2_with fail
  refine (new_st w).mono ?_
  rintro e w0 ⟨b, F0, rfl, hS0, hB0, hL0⟩
  have HS0 := hide hS0
  have HB0 := hide hB0
  have HL0 := hide hL0
  clear hS0 hB0 hL0
  have hptr : ∀ w1 : World, (binOp .eql 23 (.pointer (some ⟨b, 0, none⟩)) (.pointer none)).run Try.prog w1 = .ok (.bool false) w1 := fun _ => by kernel_rfl
  go_wp2_with fail
  refine (awake_any w0).mono ?_
  rintro e w1 ⟨rfl, hb1⟩
  have HB1 := hide hb1
  have hsz1 : w0.heap.size ≤ w1.heap.size := hb1.size
  clear hb1
  go_wp2_with fail
  have HR : Hid (Ro w w1.heap.size b [] st0 st0 F0 (fun _ => .slice none 0 0) (w1.alloc (.cells #[.int .i64 0, .slice none 0 0, .int .i64 0, .slice none 0 0, .int .i64 0, .slice none 0 0, .int .i64 0, .slice none 0 0, .int .i64 0, .slice none 0 0, .int .i64 0, .slice none 0 0, .int .i64 0, .slice none 0 0, .int .i64 0, .slice none 0 0, .int .i64 0, .slice none 0 0] 29))) := hide (by
    have hsz0 := HB0.out.size
    have hb2 := below_alloc w1 (.cells #[.int .i64 0, .slice none 0 0, .int .i64 0, .slice none 0 0, .int .i64 0, .slice none 0 0, .int .i64 0, .slice none 0 0, .int .i64 0, .slice none 0 0, .int .i64 0, .slice none 0 0, .int .i64 0, .slice none 0 0, .int .i64 0, .slice none 0 0, .int .i64 0, .slice none 0 0] 29)
    refine ⟨HS0.out.below (below_of HB1.out hb2), ⟨⟨_, heap_alloc_new w1 _, rfl, fun j hj => ?_⟩, fun j hj => World.ownsRow_nil _ _ _ _, fun i _ j _ _ k e => by cases e⟩, HL0.out, HB0.out.trans ((below_of HB1.out hb2).mono hsz0), ⟨by omega, fun hf => by have := HS0.out.lt _ hf; omega⟩, fun j _ k e => by cases e⟩
    match j, hj with
    | 0, _ => exact ⟨rfl, rfl⟩
    | 1, _ => exact ⟨rfl, rfl⟩
    | 2, _ => exact ⟨rfl, rfl⟩
    | 3, _ => exact ⟨rfl, rfl⟩
    | 4, _ => exact ⟨rfl, rfl⟩
    | 5, _ => exact ⟨rfl, rfl⟩
    | 6, _ => exact ⟨rfl, rfl⟩
    | 7, _ => exact ⟨rfl, rfl⟩
    | 8, _ => exact ⟨rfl, rfl⟩)
  generalize w1.alloc (.cells #[.int .i64 0, .slice none 0 0, .int .i64 0, .slice none 0 0, .int .i64 0, .slice none 0 0, .int .i64 0, .slice none 0 0, .int .i64 0, .slice none 0 0, .int .i64 0, .slice none 0 0, .int .i64 0, .slice none 0 0, .int .i64 0, .slice none 0 0, .int .i64 0, .slice none 0 0] 29) = w2 at *
  generalize w1.heap.size = a at *
  clear HS0 HB0 HL0 HB1 hsz1 hptr
  go_loopw [5, 6, 7, 8, 9] (fun t5 _ _ _ _ wr => ∃ (i : Nat) (s : St) (F : Nat → Prop) (vs : Nat → Value), t5 = .int .i64 (i : Int) ∧ i ≤ L.length ∧ Hid (Ro w a b [] s s F vs wr)) (fun t5 _ _ _ _ _ => L.length - (intOf t5).toNat)
  case atStart => exact ⟨0, st0, F0, _, rfl, Nat.zero_le _, HR⟩
  case round =>
    clear HR
    obtain ⟨i, s, F, vs, rfl, hi, HR⟩ := hrel
    by_cases hil : i < L.length
    · have hab : ab < w.heap.size := HO.out.lt (by omega)
      have HO2 := hide (HO.out.keep (w' := wr) fun _ => HR.out.low.block ab hab)
      have had := HO.out.at_ (by omega)
      subst had
      obtain ⟨c0, c1, c2, c3, c4, c5, c6, c7, c8⟩ := HO2.out.nine hil
      have hda := HO.out.da i hil
      generalize L[i] = o at *
      obtain ⟨k, on, job, bdg, idx, tx, da, node, life⟩ := o
      simp only at c0 c1 c2 c3 c4 c5 c6 c7 c8 hda
      have hsb : wr.heap.size ≤ (wr.alloc (.cells #[.int .i64 k, .int .i64 on, .int .i64 job, .int .i64 bdg, .int .i64 idx, .string tx, .string da, .int .i64 node, .int .i64 life] 33)).heap.size := by simp
      have HR1 := hide (HR.out.below (below_alloc wr (.cells #[.int .i64 k, .int .i64 on, .int .i64 job, .int .i64 bdg, .int .i64 idx, .string tx, .string da, .int .i64 node, .int .i64 life] 33)))
      by_cases hk : k = 2
      · as_aux_lemma =>
          subst hk
          have HC := hide (HR1.out.sk.hear (by simp) node life da (by omega))
          have hq := nws_or s ⟨2, on, job, bdg, idx, tx, da, node, life⟩
          unfold nws nst at hq
          rw [if_pos rfl, if_pos rfl] at hq
          simp only at hq
          go_wp2_with fail
          refine HC.out.mono ?_
          rintro e4 w4 ⟨hg, hans⟩
          obtain ⟨v4, rfl⟩ : ∃ v, e4 = .returned v := by rcases hans with ⟨_, h⟩ | ⟨_, g, h, _⟩ <;> exact ⟨_, h⟩
          rw [List.nil_append] at hg
          obtain ⟨F4, hR4⟩ := HR1.out.step hg
          clear hans hg HC
          have HR4 := hide hR4
          have HQ := hide hq
          clear hR4 hq
          generalize hnw s da = N at *
          generalize hst s da = S' at *
          have HT := hide HR4.out.sk.told
          go_wp2_with fail
          refine HT.out.mono ?_
          rintro e5 w5 ⟨tv, F5, rfl, ht, hS5, hM5, hz5, hF5, hn5⟩
          obtain ⟨F6, hR5⟩ := HR4.out.step ⟨F5, hS5, hM5, fun k hk => .inl (hF5 k hk)⟩
          have HR5 := hide hR5
          clear hS5 hM5 hF5 hR5 HR4 HT hz5 hn5
          rcases HQ.out with ⟨hN, hS⟩ | ⟨ev, hadm, hN, hS⟩
          · subst hN
            subst hS
            obtain ⟨tad, tcap, rfl⟩ := own_slice ht
            clear ht HQ
            simp only [List.length_nil]
            go_wp2_with fail
            refine wp_loop_rounds 1 ?_
            rw [rounds_succ]
            go_wp2_with fail
            exact ⟨⟨i + 1, _, _, _, by go_num, by omega, HR5⟩, by simp [intOf]; omega⟩
          · subst hN
            clear HQ
            obtain ⟨ej, eb, ex, et⟩ := ev
            simp only at hadm hS
            obtain ⟨f1, f2, f3, f4, f5, f6, hcase⟩ := adm_facts hadm
            clear hadm
            obtain ⟨jn, rfl⟩ : ∃ jn : Nat, ej = (jn : Int) := ⟨ej.toNat, by omega⟩
            have hj9 : jn < 9 := by omega
            rcases own_form ht with ⟨_, h0⟩ | ⟨ge, gcap, rfl, hge⟩
            · cases h0
            have hcell : ∀ i u, (Ev.cs ⟨(jn : Int), eb, ex, et⟩)[i]? = some u → w5.cell? ⟨ge, i, none⟩ = some u := fun i u hu => by
              have := ht.cells (g := ge) rfl i u (by simpa [ecs] using hu)
              rw [Addr.add_lit, Nat.zero_add] at this
              exact this
            have k0 := hcell 0 _ rfl
            have k1 := hcell 1 _ rfl
            have k2 := hcell 2 _ rfl
            have k3 := hcell 3 _ rfl
            have k4 := hcell 4 _ rfl
            have k5 := hcell 5 _ rfl
            have k6 := hcell 6 _ rfl
            have k7 := hcell 7 _ rfl
            have k8 := hcell 8 _ rfl
            have k9 := hcell 9 _ rfl
            have k10 := hcell 10 _ rfl
            have k11 := hcell 11 _ rfl
            have k12 := hcell 12 _ rfl
            simp only at k0 k1 k2 k3 k4 k5 k6 k7 k8 k9 k10 k11 k12
            clear hcell ht
            simp only [List.length_singleton]
            have HR6 := hide (HR5.out.below (below_alloc w5 (.cells (Ev.cs ⟨(jn : Int), eb, ex, et⟩).toArray 45)))
            have HBe : Hid ((w5.alloc (.cells (Ev.cs ⟨(jn : Int), eb, ex, et⟩).toArray 45)).heap[w5.heap.size]? = some (.cells (Ev.cs ⟨(jn : Int), eb, ex, et⟩).toArray 45 (0, 0))) := hide (heap_alloc_new w5 _)
            obtain ⟨a0, a1, az⟩ := HR6.out.al.c hj9
            have hrow := HR6.out.al.row jn hj9
            obtain ⟨vad, vcap, hv⟩ := own_slice hrow
            rw [hv] at a1 hrow
            have HRow := hide hrow
            have haz0 := az (jn * 2)
            have haz1 := az (jn * 2 + 1)
            have d1 : decide ((jn : Int) < 1) = false := by simp; omega
            have d2 : decide (8 < (jn : Int)) = false := by simp; omega
            have d3 : decide (eb < (s jn).1) = false := by simp; omega
            have e0 : (0 : Int) ≤ (jn : Int) := by omega
            have e1 : (jn : Int) < 9 := by omega
            clear az hrow
            rcases hcase with ⟨g1, g2, g3, g4⟩ | ⟨g1, g2, g3⟩
            · subst g2
              subst g3
              have hS2 := hS.trans g4
              subst hS2
              have d4 : decide ((s jn).1 < eb) = true := by simp; omega
              clear hS g4
              dsimp only [Ev.cs] at a0 a1 haz0 haz1
              go_wp2_with fail
              refine wp_loop_rounds 2 ?_
              rw [rounds_succ]
              go_wp2_with fail
              go_quiet (fail)
              go_wp2_with fail
              go_quiet (fail)
              go_wp2_with fail
              rw [rounds_succ]
              go_wp2_with fail
              exact ⟨⟨i + 1, _, F6, _, by go_num, by omega, hide (Ro.claim (Ro.below HR6.out (below_drewN _ _)) hj9 eb)⟩, by simp [intOf]; omega⟩
            · have hS2 := hS.trans g3
              subst hS2
              have d4 : decide ((s jn).1 < eb) = false := by simp; omega
              have d5 : (ex != 1 + ((s jn).2.length : Int)) = false := by simp; omega
              have d6 : decide (16 < ex) = false := by simp; omega
              have hlen : (s jn).2.length < 16 := by omega
              have HG1 : Hid ((s jn).1 = eb) := hide g1
              have hlta : a < w5.heap.size := HR5.out.al.lt
              have HNE : Hid (w5.heap.size ≠ a) := hide (by omega)
              clear hS g3 g1 g2 f5
              dsimp only [Ev.cs] at a0 a1 haz0 haz1
              go_wp2_with fail
              refine wp_loop_rounds 2 ?_
              rw [rounds_succ]
              go_wp2_with fail
              go_quiet (fail)
              go_wp2_with fail
              go_quiet (fail)
              go_wp2_with fail
              go_quiet (fail)
              go_wp2_with fail
              refine wp_region_held_drew (S := fun w' => w'.heap[w5.heap.size]? = some (.cells (Ev.cs ⟨(jn : Int), eb, ex, et⟩).toArray 45 (0, 0))) (by kernel_rfl) (HBe.out) (fun hHeld => ?_)
              refine wpAnyH_take (i := 0) (v := .pointer (some ⟨w5.heap.size, 4, none⟩)) rfl (by kernel_rfl) (by kernel_rfl) (by kernel_rfl) (fun _ _ _ h => h) (Or.inl ⟨by kernel_rfl, fun w1 hSw => by clear hHeld; obtain ⟨k4, k11⟩ := ev_of hSw; go_simp⟩) hHeld ?_
              try simp only [Act.put]
              try simp only [List.getElem_toArray]
              try simp only [List.getElem_cons_succ]
              try simp only [List.getElem_cons_zero]
              try simp only [List.setIfInBounds_toArray]
              try simp only [List.set_cons_succ, List.set_cons_zero]
              refine wpAnyH_take (i := 1) (v := .int .i64 (jn : Int)) rfl (by kernel_rfl) (by kernel_rfl) (by kernel_rfl) (fun _ _ _ h => h) (Or.inl ⟨by kernel_rfl, fun w1 hSw => by clear hHeld; obtain ⟨k4, k11⟩ := ev_of hSw; go_simp⟩) hHeld ?_
              try simp only [Act.put]
              try simp only [List.getElem_toArray]
              try simp only [List.getElem_cons_succ]
              try simp only [List.getElem_cons_zero]
              try simp only [List.setIfInBounds_toArray]
              try simp only [List.set_cons_succ, List.set_cons_zero]
              refine wpAnyH_take (i := 2) (v := .pointer (some ⟨w5.heap.size, 4, none⟩)) rfl (by kernel_rfl) (by kernel_rfl) (by kernel_rfl) (fun _ _ _ h => h) (Or.inl ⟨by kernel_rfl, fun w1 hSw => by clear hHeld; obtain ⟨k4, k11⟩ := ev_of hSw; go_simp⟩) hHeld ?_
              try simp only [Act.put]
              try simp only [List.getElem_toArray]
              try simp only [List.getElem_cons_succ]
              try simp only [List.getElem_cons_zero]
              try simp only [List.setIfInBounds_toArray]
              try simp only [List.set_cons_succ, List.set_cons_zero]
              refine wpAnyH_take (i := 3) (v := .int .i64 (jn : Int)) rfl (by kernel_rfl) (by kernel_rfl) (by kernel_rfl) (fun _ _ _ h => h) (Or.inl ⟨by kernel_rfl, fun w1 hSw => by clear hHeld; obtain ⟨k4, k11⟩ := ev_of hSw; go_simp⟩) hHeld ?_
              try simp only [Act.put]
              try simp only [List.getElem_toArray]
              try simp only [List.getElem_cons_succ]
              try simp only [List.getElem_cons_zero]
              try simp only [List.setIfInBounds_toArray]
              try simp only [List.set_cons_succ, List.set_cons_zero]
              refine wpAnyH_take (i := 4) (v := .pointer (some ⟨a, jn * 2, none⟩)) rfl (by kernel_rfl) (by kernel_rfl) (by kernel_rfl) (fun _ _ _ h => h) (Or.inl ⟨by kernel_rfl, fun w1 hSw => by clear hHeld; obtain ⟨k4, k11⟩ := ev_of hSw; go_simp⟩) hHeld ?_
              try simp only [Act.put]
              try simp only [List.getElem_toArray]
              try simp only [List.getElem_cons_succ]
              try simp only [List.getElem_cons_zero]
              try simp only [List.setIfInBounds_toArray]
              try simp only [List.set_cons_succ, List.set_cons_zero]
              refine wpAnyH_take (i := 5) (v := .pointer (some ⟨a, jn * 2 + 1, none⟩)) rfl (by kernel_rfl) (by kernel_rfl) (by kernel_rfl) (fun _ _ _ h => h) (Or.inl ⟨by kernel_rfl, fun w1 hSw => by clear hHeld; obtain ⟨k4, k11⟩ := ev_of hSw; go_simp⟩) hHeld ?_
              try simp only [Act.put]
              try simp only [List.getElem_toArray]
              try simp only [List.getElem_cons_succ]
              try simp only [List.getElem_cons_zero]
              try simp only [List.setIfInBounds_toArray]
              try simp only [List.set_cons_succ, List.set_cons_zero]
              refine wpAnyH_take (i := 7) (v := .pointer (some ⟨w5.heap.size, 11, none⟩)) rfl (by kernel_rfl) (by kernel_rfl) (by kernel_rfl) (fun _ _ _ h => h) (Or.inl ⟨by kernel_rfl, fun w1 hSw => by clear hHeld; obtain ⟨k4, k11⟩ := ev_of hSw; go_simp⟩) hHeld ?_
              try simp only [Act.put]
              try simp only [List.getElem_toArray]
              try simp only [List.getElem_cons_succ]
              try simp only [List.getElem_cons_zero]
              try simp only [List.setIfInBounds_toArray]
              try simp only [List.set_cons_succ, List.set_cons_zero]
              refine wpAnyH_take (i := 8) (v := .string et) rfl (by kernel_rfl) (by kernel_rfl) (by kernel_rfl) (fun _ _ _ h => h) (Or.inl ⟨by kernel_rfl, fun w1 hSw => by clear hHeld; obtain ⟨k4, k11⟩ := ev_of hSw; go_simp⟩) hHeld ?_
              try simp only [Act.put]
              try simp only [List.getElem_toArray]
              try simp only [List.getElem_cons_succ]
              try simp only [List.getElem_cons_zero]
              try simp only [List.setIfInBounds_toArray]
              try simp only [List.set_cons_succ, List.set_cons_zero]
              refine wpAnyH_ready (rs := [6, 9]) (by kernel_rfl) (by simp) ?_
              refine AllReadyH.cons rfl (fun K hK => ?_) (AllReadyH.cons rfl (fun K hK => ?_) AllReadyH.nil)
              · go_simp
                refine hK.out _ _ (hHeld) (fun hHeld => ?_)
                clear hK K
                try simp only [Act.put]
                try simp only [List.getElem_toArray]
                try simp only [List.getElem_cons_succ]
                try simp only [List.getElem_cons_zero]
                try simp only [List.setIfInBounds_toArray]
                try simp only [List.set_cons_succ, List.set_cons_zero]
                refine wpAnyH_ready (rs := [9]) (by kernel_rfl) (by simp) ?_
                refine AllReadyH.cons rfl (fun K hK => ?_) AllReadyH.nil
                go_simp
                refine hK.out _ _ (((below_alloc _ _).block _ (by show w5.heap.size < (w5.alloc _).heap.size; simp)).trans hHeld) (fun hHeld => ?_)
                clear hK K
                try simp only [Act.put]
                try simp only [List.getElem_toArray]
                try simp only [List.getElem_cons_succ]
                try simp only [List.getElem_cons_zero]
                try simp only [List.setIfInBounds_toArray]
                try simp only [List.set_cons_succ, List.set_cons_zero]
                refine wpAnyH_ready (rs := [10]) (by kernel_rfl) (by simp) ?_
                refine AllReadyH.cons rfl (fun K hK => ?_) AllReadyH.nil
                rw [if_pos (by kernel_rfl)]
                refine wp_append_two _ _ 26 rfl 0 9 iS (.string ByteArray.empty) 1 16 Try.underlying26 hiS zS0 zS1 zS2 rfl (by decide) (.slice vad (s jn).2.length vcap) (s jn).2.length (tcs (s jn).2) (by rfl) (own_keep HRow.out fun k e => (below_alloc _ _).block k (HRow.out.lt k e).2) ⟨w5.heap.size + 1, 0, none⟩ 1 1 [.string et] (by decide) (by rfl) rfl (one_at (by show w5.heap.size + 1 = (w5.alloc _).heap.size; simp) _ _) (by intro u hu; simp at hu; subst hu; rfl) (by unfold maxLen; omega) (by omega) (by omega) ?_
                intro v' w9 hown hgrow htwo
                obtain ⟨hF9, hc9, hz9⟩ := Ro.app2 HR6.out hj9 hgrow hv (below_up ⟨rfl, rfl, rfl, rfl⟩) hown htwo
                have HF9 := hide hF9
                obtain ⟨ad9, cap9, hv9⟩ := own_slice hown
                have HG9 := hide hgrow
                subst hv9
                clear hown htwo hF9 hgrow
                refine hK.out _ _ ((HG9.out.block _ (by show w5.heap.size < (World.alloc _ _).heap.size; rw [World.size_alloc]; show w5.heap.size < (w5.alloc _).heap.size + 1; simp; omega) (fun e => own_ne HRow.out HBe.out (by decide) _ e.symm rfl)).trans hHeld) (fun hHeld => ?_)
                clear hK K
                try simp only [Act.put]
                try simp only [List.getElem_toArray]
                try simp only [List.getElem_cons_succ]
                try simp only [List.getElem_cons_zero]
                try simp only [List.setIfInBounds_toArray]
                try simp only [List.set_cons_succ, List.set_cons_zero]
                refine wpAnyH_take (i := 11) (v := .pointer (some ⟨a, jn * 2, none⟩)) rfl (by kernel_rfl) (by kernel_rfl) (by kernel_rfl) (fun _ _ _ h => h) (Or.inl ⟨by kernel_rfl, fun w1 hSw => by clear hHeld; obtain ⟨k4, k11⟩ := ev_of hSw; go_simp⟩) hHeld ?_
                try simp only [Act.put]
                try simp only [List.getElem_toArray]
                try simp only [List.getElem_cons_succ]
                try simp only [List.getElem_cons_zero]
                try simp only [List.setIfInBounds_toArray]
                try simp only [List.set_cons_succ, List.set_cons_zero]
                refine wpAnyH_take (i := 12) (v := .pointer (some ⟨a, jn * 2 + 1, none⟩)) rfl (by kernel_rfl) (by kernel_rfl) (by kernel_rfl) (fun _ _ _ h => h) (Or.inl ⟨by kernel_rfl, fun w1 hSw => by clear hHeld; obtain ⟨k4, k11⟩ := ev_of hSw; go_simp⟩) hHeld ?_
                try simp only [Act.put]
                try simp only [List.getElem_toArray]
                try simp only [List.getElem_cons_succ]
                try simp only [List.getElem_cons_zero]
                try simp only [List.setIfInBounds_toArray]
                try simp only [List.set_cons_succ, List.set_cons_zero]
                refine wpAnyH_ready (rs := [13]) (by kernel_rfl) (by simp) ?_
                refine AllReadyH.cons rfl (fun K hK => ?_) AllReadyH.nil
                go_simp
                refine hK.out _ _ ((set_other _ _ HNE.out).trans hHeld) (fun hHeld => ?_)
                clear hK K
                try simp only [Act.put]
                try simp only [List.getElem_toArray]
                try simp only [List.getElem_cons_succ]
                try simp only [List.getElem_cons_zero]
                try simp only [List.setIfInBounds_toArray]
                try simp only [List.set_cons_succ, List.set_cons_zero]
                refine wpAnyH_done (by kernel_rfl) ?_ _
                clear hHeld
                go_wp2_with fail
                rw [rounds_succ]
                go_wp2_with fail
                have HF10 := HF9.out
                rw [HG1.out] at HF10
                exact ⟨⟨i + 1, _, F6, _, by go_num, by omega, hide HF10⟩, by simp [intOf]; omega⟩
              · go_simp
                refine hK.out _ _ (((below_alloc _ _).block _ (by show w5.heap.size < (w5.alloc _).heap.size; simp)).trans hHeld) (fun hHeld => ?_)
                clear hK K
                try simp only [Act.put]
                try simp only [List.getElem_toArray]
                try simp only [List.getElem_cons_succ]
                try simp only [List.getElem_cons_zero]
                try simp only [List.setIfInBounds_toArray]
                try simp only [List.set_cons_succ, List.set_cons_zero]
                refine wpAnyH_ready (rs := [6]) (by kernel_rfl) (by simp) ?_
                refine AllReadyH.cons rfl (fun K hK => ?_) AllReadyH.nil
                go_simp
                refine hK.out _ _ (hHeld) (fun hHeld => ?_)
                clear hK K
                try simp only [Act.put]
                try simp only [List.getElem_toArray]
                try simp only [List.getElem_cons_succ]
                try simp only [List.getElem_cons_zero]
                try simp only [List.setIfInBounds_toArray]
                try simp only [List.set_cons_succ, List.set_cons_zero]
                refine wpAnyH_ready (rs := [10]) (by kernel_rfl) (by simp) ?_
                refine AllReadyH.cons rfl (fun K hK => ?_) AllReadyH.nil
                rw [if_pos (by kernel_rfl)]
                refine wp_append_two _ _ 26 rfl 0 9 iS (.string ByteArray.empty) 1 16 Try.underlying26 hiS zS0 zS1 zS2 rfl (by decide) (.slice vad (s jn).2.length vcap) (s jn).2.length (tcs (s jn).2) (by rfl) (own_keep HRow.out fun k e => (below_alloc _ _).block k (HRow.out.lt k e).2) ⟨w5.heap.size + 1, 0, none⟩ 1 1 [.string et] (by decide) (by rfl) rfl (one_at (by show w5.heap.size + 1 = (w5.alloc _).heap.size; simp) _ _) (by intro u hu; simp at hu; subst hu; rfl) (by unfold maxLen; omega) (by omega) (by omega) ?_
                intro v' w9 hown hgrow htwo
                obtain ⟨hF9, hc9, hz9⟩ := Ro.app2 HR6.out hj9 hgrow hv (below_up ⟨rfl, rfl, rfl, rfl⟩) hown htwo
                have HF9 := hide hF9
                obtain ⟨ad9, cap9, hv9⟩ := own_slice hown
                have HG9 := hide hgrow
                subst hv9
                clear hown htwo hF9 hgrow
                refine hK.out _ _ ((HG9.out.block _ (by show w5.heap.size < (World.alloc _ _).heap.size; rw [World.size_alloc]; show w5.heap.size < (w5.alloc _).heap.size + 1; simp; omega) (fun e => own_ne HRow.out HBe.out (by decide) _ e.symm rfl)).trans hHeld) (fun hHeld => ?_)
                clear hK K
                try simp only [Act.put]
                try simp only [List.getElem_toArray]
                try simp only [List.getElem_cons_succ]
                try simp only [List.getElem_cons_zero]
                try simp only [List.setIfInBounds_toArray]
                try simp only [List.set_cons_succ, List.set_cons_zero]
                refine wpAnyH_take (i := 11) (v := .pointer (some ⟨a, jn * 2, none⟩)) rfl (by kernel_rfl) (by kernel_rfl) (by kernel_rfl) (fun _ _ _ h => h) (Or.inl ⟨by kernel_rfl, fun w1 hSw => by clear hHeld; obtain ⟨k4, k11⟩ := ev_of hSw; go_simp⟩) hHeld ?_
                try simp only [Act.put]
                try simp only [List.getElem_toArray]
                try simp only [List.getElem_cons_succ]
                try simp only [List.getElem_cons_zero]
                try simp only [List.setIfInBounds_toArray]
                try simp only [List.set_cons_succ, List.set_cons_zero]
                refine wpAnyH_take (i := 12) (v := .pointer (some ⟨a, jn * 2 + 1, none⟩)) rfl (by kernel_rfl) (by kernel_rfl) (by kernel_rfl) (fun _ _ _ h => h) (Or.inl ⟨by kernel_rfl, fun w1 hSw => by clear hHeld; obtain ⟨k4, k11⟩ := ev_of hSw; go_simp⟩) hHeld ?_
                try simp only [Act.put]
                try simp only [List.getElem_toArray]
                try simp only [List.getElem_cons_succ]
                try simp only [List.getElem_cons_zero]
                try simp only [List.setIfInBounds_toArray]
                try simp only [List.set_cons_succ, List.set_cons_zero]
                refine wpAnyH_ready (rs := [13]) (by kernel_rfl) (by simp) ?_
                refine AllReadyH.cons rfl (fun K hK => ?_) AllReadyH.nil
                go_simp
                refine hK.out _ _ ((set_other _ _ HNE.out).trans hHeld) (fun hHeld => ?_)
                clear hK K
                try simp only [Act.put]
                try simp only [List.getElem_toArray]
                try simp only [List.getElem_cons_succ]
                try simp only [List.getElem_cons_zero]
                try simp only [List.setIfInBounds_toArray]
                try simp only [List.set_cons_succ, List.set_cons_zero]
                refine wpAnyH_done (by kernel_rfl) ?_ _
                clear hHeld
                go_wp2_with fail
                rw [rounds_succ]
                go_wp2_with fail
                have HF10 := HF9.out
                rw [HG1.out] at HF10
                exact ⟨⟨i + 1, _, F6, _, by go_num, by omega, hide HF10⟩, by simp [intOf]; omega⟩
      · as_aux_lemma =>
          have hk2 : (k == 2) = false := by simpa using hk
          have HC := hide (HR1.out.sk.put (by simp) job bdg idx tx)
          have hq := nws_or s ⟨k, on, job, bdg, idx, tx, da, node, life⟩
          unfold nws nst at hq
          rw [if_neg hk, if_neg hk] at hq
          simp only at hq
          clear hk
          go_wp2_with fail
          refine HC.out.mono ?_
          rintro e4 w4 ⟨rfl, hg⟩
          rw [List.nil_append] at hg
          obtain ⟨F4, hR4⟩ := HR1.out.step hg
          clear hg HC
          have HR4 := hide hR4
          have HQ := hide hq
          clear hR4 hq
          generalize news s job bdg idx tx = N at *
          generalize nxt s job bdg idx tx = S' at *
          have HT := hide HR4.out.sk.told
          go_wp2_with fail
          refine HT.out.mono ?_
          rintro e5 w5 ⟨tv, F5, rfl, ht, hS5, hM5, hz5, hF5, hn5⟩
          obtain ⟨F6, hR5⟩ := HR4.out.step ⟨F5, hS5, hM5, fun k hk => .inl (hF5 k hk)⟩
          have HR5 := hide hR5
          clear hS5 hM5 hF5 hR5 HR4 HT hz5 hn5
          rcases HQ.out with ⟨hN, hS⟩ | ⟨ev, hadm, hN, hS⟩
          · subst hN
            subst hS
            obtain ⟨tad, tcap, rfl⟩ := own_slice ht
            clear ht HQ
            simp only [List.length_nil]
            go_wp2_with fail
            refine wp_loop_rounds 1 ?_
            rw [rounds_succ]
            go_wp2_with fail
            exact ⟨⟨i + 1, _, _, _, by go_num, by omega, HR5⟩, by simp [intOf]; omega⟩
          · subst hN
            clear HQ
            obtain ⟨ej, eb, ex, et⟩ := ev
            simp only at hadm hS
            obtain ⟨f1, f2, f3, f4, f5, f6, hcase⟩ := adm_facts hadm
            clear hadm
            obtain ⟨jn, rfl⟩ : ∃ jn : Nat, ej = (jn : Int) := ⟨ej.toNat, by omega⟩
            have hj9 : jn < 9 := by omega
            rcases own_form ht with ⟨_, h0⟩ | ⟨ge, gcap, rfl, hge⟩
            · cases h0
            have hcell : ∀ i u, (Ev.cs ⟨(jn : Int), eb, ex, et⟩)[i]? = some u → w5.cell? ⟨ge, i, none⟩ = some u := fun i u hu => by
              have := ht.cells (g := ge) rfl i u (by simpa [ecs] using hu)
              rw [Addr.add_lit, Nat.zero_add] at this
              exact this
            have k0 := hcell 0 _ rfl
            have k1 := hcell 1 _ rfl
            have k2 := hcell 2 _ rfl
            have k3 := hcell 3 _ rfl
            have k4 := hcell 4 _ rfl
            have k5 := hcell 5 _ rfl
            have k6 := hcell 6 _ rfl
            have k7 := hcell 7 _ rfl
            have k8 := hcell 8 _ rfl
            have k9 := hcell 9 _ rfl
            have k10 := hcell 10 _ rfl
            have k11 := hcell 11 _ rfl
            have k12 := hcell 12 _ rfl
            simp only at k0 k1 k2 k3 k4 k5 k6 k7 k8 k9 k10 k11 k12
            clear hcell ht
            simp only [List.length_singleton]
            have HR6 := hide (HR5.out.below (below_alloc w5 (.cells (Ev.cs ⟨(jn : Int), eb, ex, et⟩).toArray 45)))
            have HBe : Hid ((w5.alloc (.cells (Ev.cs ⟨(jn : Int), eb, ex, et⟩).toArray 45)).heap[w5.heap.size]? = some (.cells (Ev.cs ⟨(jn : Int), eb, ex, et⟩).toArray 45 (0, 0))) := hide (heap_alloc_new w5 _)
            obtain ⟨a0, a1, az⟩ := HR6.out.al.c hj9
            have hrow := HR6.out.al.row jn hj9
            obtain ⟨vad, vcap, hv⟩ := own_slice hrow
            rw [hv] at a1 hrow
            have HRow := hide hrow
            have haz0 := az (jn * 2)
            have haz1 := az (jn * 2 + 1)
            have d1 : decide ((jn : Int) < 1) = false := by simp; omega
            have d2 : decide (8 < (jn : Int)) = false := by simp; omega
            have d3 : decide (eb < (s jn).1) = false := by simp; omega
            have e0 : (0 : Int) ≤ (jn : Int) := by omega
            have e1 : (jn : Int) < 9 := by omega
            clear az hrow
            rcases hcase with ⟨g1, g2, g3, g4⟩ | ⟨g1, g2, g3⟩
            · subst g2
              subst g3
              have hS2 := hS.trans g4
              subst hS2
              have d4 : decide ((s jn).1 < eb) = true := by simp; omega
              clear hS g4
              dsimp only [Ev.cs] at a0 a1 haz0 haz1
              go_wp2_with fail
              refine wp_loop_rounds 2 ?_
              rw [rounds_succ]
              go_wp2_with fail
              go_quiet (fail)
              go_wp2_with fail
              go_quiet (fail)
              go_wp2_with fail
              rw [rounds_succ]
              go_wp2_with fail
              exact ⟨⟨i + 1, _, F6, _, by go_num, by omega, hide (Ro.claim (Ro.below HR6.out (below_drewN _ _)) hj9 eb)⟩, by simp [intOf]; omega⟩
            · have hS2 := hS.trans g3
              subst hS2
              have d4 : decide ((s jn).1 < eb) = false := by simp; omega
              have d5 : (ex != 1 + ((s jn).2.length : Int)) = false := by simp; omega
              have d6 : decide (16 < ex) = false := by simp; omega
              have hlen : (s jn).2.length < 16 := by omega
              have HG1 : Hid ((s jn).1 = eb) := hide g1
              have hlta : a < w5.heap.size := HR5.out.al.lt
              have HNE : Hid (w5.heap.size ≠ a) := hide (by omega)
              clear hS g3 g1 g2 f5
              dsimp only [Ev.cs] at a0 a1 haz0 haz1
              go_wp2_with fail
              refine wp_loop_rounds 2 ?_
              rw [rounds_succ]
              go_wp2_with fail
              go_quiet (fail)
              go_wp2_with fail
              go_quiet (fail)
              go_wp2_with fail
              go_quiet (fail)
              go_wp2_with fail
              refine wp_region_held_drew (S := fun w' => w'.heap[w5.heap.size]? = some (.cells (Ev.cs ⟨(jn : Int), eb, ex, et⟩).toArray 45 (0, 0))) (by kernel_rfl) (HBe.out) (fun hHeld => ?_)
              refine wpAnyH_take (i := 0) (v := .pointer (some ⟨w5.heap.size, 4, none⟩)) rfl (by kernel_rfl) (by kernel_rfl) (by kernel_rfl) (fun _ _ _ h => h) (Or.inl ⟨by kernel_rfl, fun w1 hSw => by clear hHeld; obtain ⟨k4, k11⟩ := ev_of hSw; go_simp⟩) hHeld ?_
              try simp only [Act.put]
              try simp only [List.getElem_toArray]
              try simp only [List.getElem_cons_succ]
              try simp only [List.getElem_cons_zero]
              try simp only [List.setIfInBounds_toArray]
              try simp only [List.set_cons_succ, List.set_cons_zero]
              refine wpAnyH_take (i := 1) (v := .int .i64 (jn : Int)) rfl (by kernel_rfl) (by kernel_rfl) (by kernel_rfl) (fun _ _ _ h => h) (Or.inl ⟨by kernel_rfl, fun w1 hSw => by clear hHeld; obtain ⟨k4, k11⟩ := ev_of hSw; go_simp⟩) hHeld ?_
              try simp only [Act.put]
              try simp only [List.getElem_toArray]
              try simp only [List.getElem_cons_succ]
              try simp only [List.getElem_cons_zero]
              try simp only [List.setIfInBounds_toArray]
              try simp only [List.set_cons_succ, List.set_cons_zero]
              refine wpAnyH_take (i := 2) (v := .pointer (some ⟨w5.heap.size, 4, none⟩)) rfl (by kernel_rfl) (by kernel_rfl) (by kernel_rfl) (fun _ _ _ h => h) (Or.inl ⟨by kernel_rfl, fun w1 hSw => by clear hHeld; obtain ⟨k4, k11⟩ := ev_of hSw; go_simp⟩) hHeld ?_
              try simp only [Act.put]
              try simp only [List.getElem_toArray]
              try simp only [List.getElem_cons_succ]
              try simp only [List.getElem_cons_zero]
              try simp only [List.setIfInBounds_toArray]
              try simp only [List.set_cons_succ, List.set_cons_zero]
              refine wpAnyH_take (i := 3) (v := .int .i64 (jn : Int)) rfl (by kernel_rfl) (by kernel_rfl) (by kernel_rfl) (fun _ _ _ h => h) (Or.inl ⟨by kernel_rfl, fun w1 hSw => by clear hHeld; obtain ⟨k4, k11⟩ := ev_of hSw; go_simp⟩) hHeld ?_
              try simp only [Act.put]
              try simp only [List.getElem_toArray]
              try simp only [List.getElem_cons_succ]
              try simp only [List.getElem_cons_zero]
              try simp only [List.setIfInBounds_toArray]
              try simp only [List.set_cons_succ, List.set_cons_zero]
              refine wpAnyH_take (i := 4) (v := .pointer (some ⟨a, jn * 2, none⟩)) rfl (by kernel_rfl) (by kernel_rfl) (by kernel_rfl) (fun _ _ _ h => h) (Or.inl ⟨by kernel_rfl, fun w1 hSw => by clear hHeld; obtain ⟨k4, k11⟩ := ev_of hSw; go_simp⟩) hHeld ?_
              try simp only [Act.put]
              try simp only [List.getElem_toArray]
              try simp only [List.getElem_cons_succ]
              try simp only [List.getElem_cons_zero]
              try simp only [List.setIfInBounds_toArray]
              try simp only [List.set_cons_succ, List.set_cons_zero]
              refine wpAnyH_take (i := 5) (v := .pointer (some ⟨a, jn * 2 + 1, none⟩)) rfl (by kernel_rfl) (by kernel_rfl) (by kernel_rfl) (fun _ _ _ h => h) (Or.inl ⟨by kernel_rfl, fun w1 hSw => by clear hHeld; obtain ⟨k4, k11⟩ := ev_of hSw; go_simp⟩) hHeld ?_
              try simp only [Act.put]
              try simp only [List.getElem_toArray]
              try simp only [List.getElem_cons_succ]
              try simp only [List.getElem_cons_zero]
              try simp only [List.setIfInBounds_toArray]
              try simp only [List.set_cons_succ, List.set_cons_zero]
              refine wpAnyH_take (i := 7) (v := .pointer (some ⟨w5.heap.size, 11, none⟩)) rfl (by kernel_rfl) (by kernel_rfl) (by kernel_rfl) (fun _ _ _ h => h) (Or.inl ⟨by kernel_rfl, fun w1 hSw => by clear hHeld; obtain ⟨k4, k11⟩ := ev_of hSw; go_simp⟩) hHeld ?_
              try simp only [Act.put]
              try simp only [List.getElem_toArray]
              try simp only [List.getElem_cons_succ]
              try simp only [List.getElem_cons_zero]
              try simp only [List.setIfInBounds_toArray]
              try simp only [List.set_cons_succ, List.set_cons_zero]
              refine wpAnyH_take (i := 8) (v := .string et) rfl (by kernel_rfl) (by kernel_rfl) (by kernel_rfl) (fun _ _ _ h => h) (Or.inl ⟨by kernel_rfl, fun w1 hSw => by clear hHeld; obtain ⟨k4, k11⟩ := ev_of hSw; go_simp⟩) hHeld ?_
              try simp only [Act.put]
              try simp only [List.getElem_toArray]
              try simp only [List.getElem_cons_succ]
              try simp only [List.getElem_cons_zero]
              try simp only [List.setIfInBounds_toArray]
              try simp only [List.set_cons_succ, List.set_cons_zero]
              refine wpAnyH_ready (rs := [6, 9]) (by kernel_rfl) (by simp) ?_
              refine AllReadyH.cons rfl (fun K hK => ?_) (AllReadyH.cons rfl (fun K hK => ?_) AllReadyH.nil)
              · go_simp
                refine hK.out _ _ (hHeld) (fun hHeld => ?_)
                clear hK K
                try simp only [Act.put]
                try simp only [List.getElem_toArray]
                try simp only [List.getElem_cons_succ]
                try simp only [List.getElem_cons_zero]
                try simp only [List.setIfInBounds_toArray]
                try simp only [List.set_cons_succ, List.set_cons_zero]
                refine wpAnyH_ready (rs := [9]) (by kernel_rfl) (by simp) ?_
                refine AllReadyH.cons rfl (fun K hK => ?_) AllReadyH.nil
                go_simp
                refine hK.out _ _ (((below_alloc _ _).block _ (by show w5.heap.size < (w5.alloc _).heap.size; simp)).trans hHeld) (fun hHeld => ?_)
                clear hK K
                try simp only [Act.put]
                try simp only [List.getElem_toArray]
                try simp only [List.getElem_cons_succ]
                try simp only [List.getElem_cons_zero]
                try simp only [List.setIfInBounds_toArray]
                try simp only [List.set_cons_succ, List.set_cons_zero]
                refine wpAnyH_ready (rs := [10]) (by kernel_rfl) (by simp) ?_
                refine AllReadyH.cons rfl (fun K hK => ?_) AllReadyH.nil
                rw [if_pos (by kernel_rfl)]
                refine wp_append_two _ _ 26 rfl 0 9 iS (.string ByteArray.empty) 1 16 Try.underlying26 hiS zS0 zS1 zS2 rfl (by decide) (.slice vad (s jn).2.length vcap) (s jn).2.length (tcs (s jn).2) (by rfl) (own_keep HRow.out fun k e => (below_alloc _ _).block k (HRow.out.lt k e).2) ⟨w5.heap.size + 1, 0, none⟩ 1 1 [.string et] (by decide) (by rfl) rfl (one_at (by show w5.heap.size + 1 = (w5.alloc _).heap.size; simp) _ _) (by intro u hu; simp at hu; subst hu; rfl) (by unfold maxLen; omega) (by omega) (by omega) ?_
                intro v' w9 hown hgrow htwo
                obtain ⟨hF9, hc9, hz9⟩ := Ro.app2 HR6.out hj9 hgrow hv (below_up ⟨rfl, rfl, rfl, rfl⟩) hown htwo
                have HF9 := hide hF9
                obtain ⟨ad9, cap9, hv9⟩ := own_slice hown
                have HG9 := hide hgrow
                subst hv9
                clear hown htwo hF9 hgrow
                refine hK.out _ _ ((HG9.out.block _ (by show w5.heap.size < (World.alloc _ _).heap.size; rw [World.size_alloc]; show w5.heap.size < (w5.alloc _).heap.size + 1; simp; omega) (fun e => own_ne HRow.out HBe.out (by decide) _ e.symm rfl)).trans hHeld) (fun hHeld => ?_)
                clear hK K
                try simp only [Act.put]
                try simp only [List.getElem_toArray]
                try simp only [List.getElem_cons_succ]
                try simp only [List.getElem_cons_zero]
                try simp only [List.setIfInBounds_toArray]
                try simp only [List.set_cons_succ, List.set_cons_zero]
                refine wpAnyH_take (i := 11) (v := .pointer (some ⟨a, jn * 2, none⟩)) rfl (by kernel_rfl) (by kernel_rfl) (by kernel_rfl) (fun _ _ _ h => h) (Or.inl ⟨by kernel_rfl, fun w1 hSw => by clear hHeld; obtain ⟨k4, k11⟩ := ev_of hSw; go_simp⟩) hHeld ?_
                try simp only [Act.put]
                try simp only [List.getElem_toArray]
                try simp only [List.getElem_cons_succ]
                try simp only [List.getElem_cons_zero]
                try simp only [List.setIfInBounds_toArray]
                try simp only [List.set_cons_succ, List.set_cons_zero]
                refine wpAnyH_take (i := 12) (v := .pointer (some ⟨a, jn * 2 + 1, none⟩)) rfl (by kernel_rfl) (by kernel_rfl) (by kernel_rfl) (fun _ _ _ h => h) (Or.inl ⟨by kernel_rfl, fun w1 hSw => by clear hHeld; obtain ⟨k4, k11⟩ := ev_of hSw; go_simp⟩) hHeld ?_
                try simp only [Act.put]
                try simp only [List.getElem_toArray]
                try simp only [List.getElem_cons_succ]
                try simp only [List.getElem_cons_zero]
                try simp only [List.setIfInBounds_toArray]
                try simp only [List.set_cons_succ, List.set_cons_zero]
                refine wpAnyH_ready (rs := [13]) (by kernel_rfl) (by simp) ?_
                refine AllReadyH.cons rfl (fun K hK => ?_) AllReadyH.nil
                go_simp
                refine hK.out _ _ ((set_other _ _ HNE.out).trans hHeld) (fun hHeld => ?_)
                clear hK K
                try simp only [Act.put]
                try simp only [List.getElem_toArray]
                try simp only [List.getElem_cons_succ]
                try simp only [List.getElem_cons_zero]
                try simp only [List.setIfInBounds_toArray]
                try simp only [List.set_cons_succ, List.set_cons_zero]
                refine wpAnyH_done (by kernel_rfl) ?_ _
                clear hHeld
                go_wp2_with fail
                rw [rounds_succ]
                go_wp2_with fail
                have HF10 := HF9.out
                rw [HG1.out] at HF10
                exact ⟨⟨i + 1, _, F6, _, by go_num, by omega, hide HF10⟩, by simp [intOf]; omega⟩
              · go_simp
                refine hK.out _ _ (((below_alloc _ _).block _ (by show w5.heap.size < (w5.alloc _).heap.size; simp)).trans hHeld) (fun hHeld => ?_)
                clear hK K
                try simp only [Act.put]
                try simp only [List.getElem_toArray]
                try simp only [List.getElem_cons_succ]
                try simp only [List.getElem_cons_zero]
                try simp only [List.setIfInBounds_toArray]
                try simp only [List.set_cons_succ, List.set_cons_zero]
                refine wpAnyH_ready (rs := [6]) (by kernel_rfl) (by simp) ?_
                refine AllReadyH.cons rfl (fun K hK => ?_) AllReadyH.nil
                go_simp
                refine hK.out _ _ (hHeld) (fun hHeld => ?_)
                clear hK K
                try simp only [Act.put]
                try simp only [List.getElem_toArray]
                try simp only [List.getElem_cons_succ]
                try simp only [List.getElem_cons_zero]
                try simp only [List.setIfInBounds_toArray]
                try simp only [List.set_cons_succ, List.set_cons_zero]
                refine wpAnyH_ready (rs := [10]) (by kernel_rfl) (by simp) ?_
                refine AllReadyH.cons rfl (fun K hK => ?_) AllReadyH.nil
                rw [if_pos (by kernel_rfl)]
                refine wp_append_two _ _ 26 rfl 0 9 iS (.string ByteArray.empty) 1 16 Try.underlying26 hiS zS0 zS1 zS2 rfl (by decide) (.slice vad (s jn).2.length vcap) (s jn).2.length (tcs (s jn).2) (by rfl) (own_keep HRow.out fun k e => (below_alloc _ _).block k (HRow.out.lt k e).2) ⟨w5.heap.size + 1, 0, none⟩ 1 1 [.string et] (by decide) (by rfl) rfl (one_at (by show w5.heap.size + 1 = (w5.alloc _).heap.size; simp) _ _) (by intro u hu; simp at hu; subst hu; rfl) (by unfold maxLen; omega) (by omega) (by omega) ?_
                intro v' w9 hown hgrow htwo
                obtain ⟨hF9, hc9, hz9⟩ := Ro.app2 HR6.out hj9 hgrow hv (below_up ⟨rfl, rfl, rfl, rfl⟩) hown htwo
                have HF9 := hide hF9
                obtain ⟨ad9, cap9, hv9⟩ := own_slice hown
                have HG9 := hide hgrow
                subst hv9
                clear hown htwo hF9 hgrow
                refine hK.out _ _ ((HG9.out.block _ (by show w5.heap.size < (World.alloc _ _).heap.size; rw [World.size_alloc]; show w5.heap.size < (w5.alloc _).heap.size + 1; simp; omega) (fun e => own_ne HRow.out HBe.out (by decide) _ e.symm rfl)).trans hHeld) (fun hHeld => ?_)
                clear hK K
                try simp only [Act.put]
                try simp only [List.getElem_toArray]
                try simp only [List.getElem_cons_succ]
                try simp only [List.getElem_cons_zero]
                try simp only [List.setIfInBounds_toArray]
                try simp only [List.set_cons_succ, List.set_cons_zero]
                refine wpAnyH_take (i := 11) (v := .pointer (some ⟨a, jn * 2, none⟩)) rfl (by kernel_rfl) (by kernel_rfl) (by kernel_rfl) (fun _ _ _ h => h) (Or.inl ⟨by kernel_rfl, fun w1 hSw => by clear hHeld; obtain ⟨k4, k11⟩ := ev_of hSw; go_simp⟩) hHeld ?_
                try simp only [Act.put]
                try simp only [List.getElem_toArray]
                try simp only [List.getElem_cons_succ]
                try simp only [List.getElem_cons_zero]
                try simp only [List.setIfInBounds_toArray]
                try simp only [List.set_cons_succ, List.set_cons_zero]
                refine wpAnyH_take (i := 12) (v := .pointer (some ⟨a, jn * 2 + 1, none⟩)) rfl (by kernel_rfl) (by kernel_rfl) (by kernel_rfl) (fun _ _ _ h => h) (Or.inl ⟨by kernel_rfl, fun w1 hSw => by clear hHeld; obtain ⟨k4, k11⟩ := ev_of hSw; go_simp⟩) hHeld ?_
                try simp only [Act.put]
                try simp only [List.getElem_toArray]
                try simp only [List.getElem_cons_succ]
                try simp only [List.getElem_cons_zero]
                try simp only [List.setIfInBounds_toArray]
                try simp only [List.set_cons_succ, List.set_cons_zero]
                refine wpAnyH_ready (rs := [13]) (by kernel_rfl) (by simp) ?_
                refine AllReadyH.cons rfl (fun K hK => ?_) AllReadyH.nil
                go_simp
                refine hK.out _ _ ((set_other _ _ HNE.out).trans hHeld) (fun hHeld => ?_)
                clear hK K
                try simp only [Act.put]
                try simp only [List.getElem_toArray]
                try simp only [List.getElem_cons_succ]
                try simp only [List.getElem_cons_zero]
                try simp only [List.setIfInBounds_toArray]
                try simp only [List.set_cons_succ, List.set_cons_zero]
                refine wpAnyH_done (by kernel_rfl) ?_ _
                clear hHeld
                go_wp2_with fail
                rw [rounds_succ]
                go_wp2_with fail
                have HF10 := HF9.out
                rw [HG1.out] at HF10
                exact ⟨⟨i + 1, _, F6, _, by go_num, by omega, hide HF10⟩, by simp [intOf]; omega⟩
    · as_aux_lemma =>
        obtain rfl : i = L.length := by omega
        have HA := hide HR.out.sk.arts
        have hS8 : ∀ j : Nat, j < 9 → (s (j : Int)).2.length ≤ 16 := fun j hj => by
          rcases HR.out.sk.st (j : Int) with h | h
          · exact h.2.2.2.2
          · rw [h]; simp
        have HST := hide HR.out.sk.st
        go_wp2_with fail
        refine HA.out.mono ?_
        rintro e w3 ⟨yad, yg, ycap, Y, rfl, hRs, hLs, hP, hyg, hb3⟩
        have HR3 := hide (HR.out.below hb3)
        have HRs := hide hRs
        have HLs := hide hLs
        have HP := hide hP
        have hY8 : Y.length ≤ 8 := by
          have := rise_len (a := 0) (c := 9) (by decide) hLs.rise fun x hx => by have := hLs.ok x hx; omega
          omega
        clear hRs hLs hP hyg hb3 HR HA
        go_wp2_with fail
        go_loopw [11, 12] (fun t11 t12 wx => ∃ (kk jj m : Nat), t11 = .int .i64 (kk : Int) ∧ t12 = .int .i64 (jj : Int) ∧ 1 ≤ jj ∧ jj ≤ 9 ∧ kk ≤ Y.length ∧ Hid ((∀ i (h : i < Y.length), i < kk → (Y[i]).job < jj) ∧ (∀ i (h : i < Y.length), kk ≤ i → jj ≤ (Y[i]).job)) ∧ wx = w3.drewN m) (fun _ t12 _ => 9 - (intOf t12).toNat)
        case atStart => exact ⟨0, 1, 0, rfl, rfl, by omega, by omega, Nat.zero_le _, ⟨fun i h h2 => absurd h2 (by omega), fun i h _ => (HLs.out.ok _ (List.getElem_mem h)).1⟩, rfl⟩
        case round =>
          obtain ⟨kk, jj, m, rfl, rfl, hj1, hj9, hkY, HI, hwx⟩ := hrel
          have hc : ∀ p, wr.cell? p = w3.cell? p := fun p => by rw [hwx]; rfl
          have HWX := hide hwx
          clear hwx
          by_cases hj : jj ≤ 8
          · have hjl : jj < 9 := by omega
            obtain ⟨a0, a1, _⟩ := HR3.out.al.c hjl
            rw [← hc] at a0 a1
            have hd : decide ((jj : Int) ≤ 8) = true := by simp; omega
            have e0 : (0 : Int) ≤ (jj : Int) := by omega
            have e1 : (jj : Int) < 9 := by omega
            by_cases hz : (s (jj : Int)).1 = 0
            · rw [hz] at a0
              have hno : ∀ i (h : i < Y.length), (Y[i]).job ≠ jj := fun i h e => by
                have h1 := HLs.out.at_ _ (List.getElem_mem h)
                have h2 := (HLs.out.ok _ (List.getElem_mem h)).2.2.1
                rw [e] at h1
                rw [h1] at hz
                simp only at hz
                omega
              have HI2 : Hid ((∀ i (h : i < Y.length), i < kk → (Y[i]).job < ((jj + 1 : Nat) : Int)) ∧ (∀ i (h : i < Y.length), kk ≤ i → ((jj + 1 : Nat) : Int) ≤ (Y[i]).job)) := hide ⟨fun i h h2 => by have := HI.out.1 i h h2; omega, fun i h h2 => by have := HI.out.2 i h h2; have := hno i h; omega⟩
              clear hz hno a1 hc
              go_wp2_with fail
              exact ⟨⟨kk, jj + 1, m, rfl, by go_num, by omega, by omega, hkY, HI2, HWX.out⟩, by simp [intOf]; omega⟩
            · have hz2 : ((s (jj : Int)).1 == 0) = false := by simpa using hz
              have h1 : 1 ≤ (s (jj : Int)).1 := by
                rcases HST.out (jj : Int) with h | h
                · exact h.2.2.1
                · rw [h] at hz; exact absurd rfl hz
              obtain ⟨y, hy, hyj⟩ := HLs.out.all (jj : Int) h1
              obtain ⟨i, hi, hyi⟩ := List.getElem_of_mem hy
              have hki : kk ≤ i := by
                apply Nat.le_of_not_lt
                intro hlt
                have := HI.out.1 i hi hlt
                rw [hyi, hyj] at this
                omega
              have hkl : kk < Y.length := by omega
              have hjk : (Y[kk]).job = jj := by
                have h2 := HI.out.2 kk hkl (Nat.le_refl _)
                by_cases e : kk = i
                · subst e; rw [hyi]; exact hyj
                · have h3 := List.pairwise_iff_getElem.1 HLs.out.rise kk i hkl hi (by omega)
                  rw [hyi, hyj] at h3
                  omega
              have hat := HLs.out.at_ _ (List.getElem_mem hkl)
              rw [hjk] at hat
              obtain ⟨b0, b1, b2⟩ := HRs.out.three0 hkl
              rw [← hc] at b0 b1 b2
              have had := HRs.out.at_ (by omega)
              have hown := HP.out _ (List.getElem_mem hkl)
              have HI2 : Hid ((∀ i (h : i < Y.length), i < kk + 1 → (Y[i]).job < ((jj + 1 : Nat) : Int)) ∧ (∀ i (h : i < Y.length), kk + 1 ≤ i → ((jj + 1 : Nat) : Int) ≤ (Y[i]).job)) := hide ⟨fun i h h2 => by
                  by_cases e : i = kk
                  · subst e; rw [hjk]; omega
                  · have := HI.out.1 i h (by omega); omega, fun i h h2 => by
                  have h3 := List.pairwise_iff_getElem.1 HLs.out.rise kk i hkl h (by omega)
                  rw [hjk] at h3
                  omega⟩
              rw [hjk] at b0
              have hrow := HR3.out.al.row jj hjl
              have h16 := hS8 jj hjl
              rw [hat] at hrow a0 hz2 h16
              simp only at hrow a0 hz2 h16
              obtain ⟨vad, vcap, hv⟩ := own_slice hrow
              rw [hv] at a1 hrow
              obtain ⟨ga, hTa⟩ := own_tr hown
              obtain ⟨gb, hTb⟩ := own_tr hrow
              have HC : Hid (∀ n, Calls Try.prog 12 #[.slice (Y[kk]).ad (Y[kk]).pcs.length (Y[kk]).cap, .slice vad (Y[kk]).pcs.length vcap] (wr.drewN n) fun e w' => e = .returned (.bool true) ∧ ∃ q, w' = (wr.drewN n).drewN q) := hide fun n => by
                rw [HWX.out]
                exact texts_true ((hTa.drew m).drew n) ((hTb.drew m).drew n) (by omega)
              have hd2 : decide ((Y.length : Int) ≤ (kk : Int)) = false := by simp; omega
              clear hat hown hrow hTa hTb h1 hyi hyj hy hz hki hjk hi y HST hc
              dsimp only [Az.sl] at b2
              generalize (Y[kk]).bdg = yb at *
              generalize (Y[kk]).pcs = yp at *
              generalize (Y[kk]).ad = yd at *
              generalize (Y[kk]).cap = yc at *
              subst had
              go_wp2_with fail
              go_quiet (first | (go_at_call 12; exact Calls.quiet_of (HC.out _)))
              go_wp2_with fail
              exact ⟨⟨kk + 1, jj + 1, m + nq, by go_num, by go_num, by omega, by omega, by omega, HI2, by rw [HWX.out, World.drewN_drewN]⟩, by simp [intOf]; omega⟩
          · obtain rfl : jj = 9 := by omega
            have hkk : kk = Y.length := by
              apply Nat.le_antisymm hkY
              apply Nat.le_of_not_lt
              intro hlt
              have h1 := HI.out.2 kk hlt (Nat.le_refl _)
              have h2 := (HLs.out.ok _ (List.getElem_mem hlt)).2.1
              omega
            subst hkk
            have HBf := hide HR3.out.low
            clear hc
            go_wp2_with fail
            go_ret
            exact ⟨by simp, by rw [HWX.out]; exact HBf.out.trans ((below_drewN _ _).mono HBf.out.size)⟩
end Go.Proofs.Ytamonfeniheghaa.K
