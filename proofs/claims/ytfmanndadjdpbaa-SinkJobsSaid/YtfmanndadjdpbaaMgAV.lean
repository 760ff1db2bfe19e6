import Derived.Test.YtfmanndadjdpbaaMgAU
import Derived.ProofKit
import Derived.OpenShut
import Derived.ShutString
import Derived.SizedLaws
import Derived.Carry
import Derived.Deep.SlicePairs
import Derived.Deep.Strs
import Derived.Lib.SmallJoins

section
namespace Go.Proofs.Ytfmanndadjdpbaa.K
open Go.ChangeShapes Go.WideShapes Go.ChangeAt Go.RowKit Go.Deep

theorem own : ownKnob Try.prog.godebug = none := by kernel_rfl
theorem Try.laidOut : laidOutB Try.prog = true := by kernel_rfl
theorem Try.cellsI : Try.prog.cellsOf 3 = 1 := by kernel_rfl
theorem Try.cellsS : Try.prog.cellsOf 9 = 1 := by kernel_rfl
theorem Try.cellsA : Try.prog.cellsOf 31 = 2 := by kernel_rfl
theorem Try.bytesI : Try.prog.bytesOf 3 = 8 := by kernel_rfl
theorem Try.bytesOc : Try.prog.bytesOf 33 = 88 := by kernel_rfl
theorem Try.cellsOc : Try.prog.cellsOf 33 = 9 := by kernel_rfl
/-- a call of a law -/
structure Oc where
  k : Int
  on : Int
  job : Int
  bdg : Int
  idx : Int
  tx : ByteArray
  da : ByteArray
  node : Int
  life : Int
def Oc.cs (d : Oc) : List Value := [.int .i64 d.k, .int .i64 d.on, .int .i64 d.job, .int .i64 d.bdg, .int .i64 d.idx, .string d.tx, .string d.da, .int .i64 d.node, .int .i64 d.life]
/-- calls that are read -/
structure Or (w : World) (ad : Option Addr) (ab ao : Nat) (L : List Oc) : Prop where
  at_ : 0 < L.length → ad = some ⟨ab, ao, none⟩
  c : ∀ i (h : i < L.length) k, k < 9 → w.cell? ⟨ab, ao + i * 9 + k, none⟩ = (L[i]).cs[k]?
  da : ∀ i (h : i < L.length), (L[i]).da.size ≤ 140737488355328
theorem Or.lt {w : World} {ad : Option Addr} {ab ao : Nat} {L : List Oc} (h : Or w ad ab ao L) (h0 : 0 < L.length) : ab < w.heap.size := World.block_lt_of_cell? _ _ (h.c 0 h0 0 (by decide))
theorem Or.keep {w w' : World} {ad : Option Addr} {ab ao : Nat} {L : List Oc} (h : Or w ad ab ao L) (hk : 0 < L.length → w'.heap[ab]? = w.heap[ab]?) : Or w' ad ab ao L :=
  ⟨h.at_, fun i hi k h8 => (World.cell?_of_block (hk (by omega))).trans (h.c i hi k h8), h.da⟩
theorem Or.nine {w : World} {ad : Option Addr} {ab ao : Nat} {L : List Oc} (h : Or w ad ab ao L) {i : Nat} (hi : i < L.length) :
    w.cell? ⟨ab, ao + i * 9, none⟩ = some (.int .i64 (L[i]).k) ∧ w.cell? ⟨ab, ao + i * 9 + 1, none⟩ = some (.int .i64 (L[i]).on) ∧ w.cell? ⟨ab, ao + i * 9 + 2, none⟩ = some (.int .i64 (L[i]).job) ∧ w.cell? ⟨ab, ao + i * 9 + 3, none⟩ = some (.int .i64 (L[i]).bdg) ∧ w.cell? ⟨ab, ao + i * 9 + 4, none⟩ = some (.int .i64 (L[i]).idx) ∧ w.cell? ⟨ab, ao + i * 9 + 5, none⟩ = some (.string (L[i]).tx) ∧ w.cell? ⟨ab, ao + i * 9 + 6, none⟩ = some (.string (L[i]).da) ∧ w.cell? ⟨ab, ao + i * 9 + 7, none⟩ = some (.int .i64 (L[i]).node) ∧ w.cell? ⟨ab, ao + i * 9 + 8, none⟩ = some (.int .i64 (L[i]).life) :=
  ⟨h.c i hi 0 (by decide), h.c i hi 1 (by decide), h.c i hi 2 (by decide), h.c i hi 3 (by decide), h.c i hi 4 (by decide), h.c i hi 5 (by decide), h.c i hi 6 (by decide), h.c i hi 7 (by decide), h.c i hi 8 (by decide)⟩
section
variable {H : Type} {enc : TypeId × Value → H}
theorem range_get {α : Type} (f : Nat → α) (n i : Nat) (h : i < ((List.range n).map f).length) : ((List.range n).map f)[i] = f i := by simp
theorem range_len {α : Type} (f : Nat → α) (n : Nat) : ((List.range n).map f).length = n := by simp
theorem weights_all_mem {P : Program} {e : TypeId} {d : DataW H} : ∀ {ds : List (DataW H)}, d ∈ ds → ∀ n ∈ d.weights P e, n ∈ DataW.weightsAll P e ds
  | d0 :: ds, h, n, hn => by
    simp only [DataW.weightsAll, List.mem_append]
    rcases List.mem_cons.mp h with rfl | h
    · exact Or.inl hn
    · exact Or.inr (weights_all_mem h n hn)
theorem sized_mem {P : Program} {ts : List TypeId} {ds : List (DataW H)} (h : (DataW.weightsEach P ts ds).all (· ≤ reachBytes) = true) {j : Nat} {t : TypeId} {d : DataW H} (ht : ts[j]? = some t) (hd : ds[j]? = some d) : ∀ k ∈ d.weights P t, k ≤ reachBytes := fun k hk => by
  simpa using List.all_eq_true.1 h _ (DataW.weights_mem_each ht hd k hk)
set_option maxRecDepth 20000 in
/-- a call, opened -/
theorem op_at {W : World} {n : Nat} {cs : List Value} {x : DataW H × List MemPlace} (h : DataW.trod enc Try.prog W 0 (fun _ => true) true n 33 cs = some x) (hw : ∀ k ∈ x.1.weights Try.prog 33, k ≤ reachBytes) :
    ∃ q : Oc, cs = q.cs ∧ q.da.size ≤ 140737488355328 := by
  obtain ⟨xs, n, _, hxx, hl, hlen, hfi⟩ := DataW.trod_struct Try.underlying33 h
  rw [Try.cellsOc] at hl
  obtain ⟨c0, c1, c2, c3, c4, c5, c6, c7, c8, rfl⟩ : ∃ c0 c1 c2 c3 c4 c5 c6 c7 c8, cs = [c0, c1, c2, c3, c4, c5, c6, c7, c8] := by
    match cs, hl with
    | [c0, c1, c2, c3, c4, c5, c6, c7, c8], _ => exact ⟨c0, c1, c2, c3, c4, c5, c6, c7, c8, rfl⟩
  have hx : ∀ i, i < 8 → ∃ y, xs[i]? = some y := fun i hi => ⟨xs[i]'(by rw [hlen]; exact hi), List.getElem?_eq_getElem _⟩
  obtain ⟨y0, hy0⟩ := hx 0 (by decide)
  have g0 : DataW.trod enc Try.prog W 0 (fun _ => true) true n 3 [c0] = some y0 := by
    have this : DataW.trod enc Try.prog W 0 (fun _ => true) true n 3 ((List.drop 0 [c0, c1, c2, c3, c4, c5, c6, c7, c8]).take (Try.prog.cellsOf 3)) = xs[0]? := hfi 0 _ rfl
    rw [Try.cellsI] at this
    rw [← hy0]; exact this
  obtain ⟨y1, hy1⟩ := hx 1 (by decide)
  have g1 : DataW.trod enc Try.prog W 0 (fun _ => true) true n 3 [c1] = some y1 := by
    have this : DataW.trod enc Try.prog W 0 (fun _ => true) true n 3 ((List.drop 1 [c0, c1, c2, c3, c4, c5, c6, c7, c8]).take (Try.prog.cellsOf 3)) = xs[1]? := hfi 1 _ rfl
    rw [Try.cellsI] at this
    rw [← hy1]; exact this
  obtain ⟨y2, hy2⟩ := hx 2 (by decide)
  have g2 : DataW.trod enc Try.prog W 0 (fun _ => true) true n 3 [c2] = some y2 := by
    have this : DataW.trod enc Try.prog W 0 (fun _ => true) true n 3 ((List.drop 2 [c0, c1, c2, c3, c4, c5, c6, c7, c8]).take (Try.prog.cellsOf 3)) = xs[2]? := hfi 2 _ rfl
    rw [Try.cellsI] at this
    rw [← hy2]; exact this
  obtain ⟨y3, hy3⟩ := hx 3 (by decide)
  have g3 : DataW.trod enc Try.prog W 0 (fun _ => true) true n 3 [c3] = some y3 := by
    have this : DataW.trod enc Try.prog W 0 (fun _ => true) true n 3 ((List.drop 3 [c0, c1, c2, c3, c4, c5, c6, c7, c8]).take (Try.prog.cellsOf 3)) = xs[3]? := hfi 3 _ rfl
    rw [Try.cellsI] at this
    rw [← hy3]; exact this
  obtain ⟨y4, hy4⟩ := hx 4 (by decide)
  have g4 : DataW.trod enc Try.prog W 0 (fun _ => true) true n 3 [c4] = some y4 := by
    have this : DataW.trod enc Try.prog W 0 (fun _ => true) true n 3 ((List.drop 4 [c0, c1, c2, c3, c4, c5, c6, c7, c8]).take (Try.prog.cellsOf 3)) = xs[4]? := hfi 4 _ rfl
    rw [Try.cellsI] at this
    rw [← hy4]; exact this
  obtain ⟨y5, hy5⟩ := hx 5 (by decide)
  have g5 : DataW.trod enc Try.prog W 0 (fun _ => true) true n 9 [c5] = some y5 := by
    have this : DataW.trod enc Try.prog W 0 (fun _ => true) true n 9 ((List.drop 5 [c0, c1, c2, c3, c4, c5, c6, c7, c8]).take (Try.prog.cellsOf 9)) = xs[5]? := hfi 5 _ rfl
    rw [Try.cellsS] at this
    rw [← hy5]; exact this
  obtain ⟨y6, hy6⟩ := hx 6 (by decide)
  have g6 : DataW.trod enc Try.prog W 0 (fun _ => true) true n 9 [c6] = some y6 := by
    have this : DataW.trod enc Try.prog W 0 (fun _ => true) true n 9 ((List.drop 6 [c0, c1, c2, c3, c4, c5, c6, c7, c8]).take (Try.prog.cellsOf 9)) = xs[6]? := hfi 6 _ rfl
    rw [Try.cellsS] at this
    rw [← hy6]; exact this
  obtain ⟨y7, hy7⟩ := hx 7 (by decide)
  have g7 : DataW.trod enc Try.prog W 0 (fun _ => true) true n 31 [c7, c8] = some y7 := by
    have this : DataW.trod enc Try.prog W 0 (fun _ => true) true n 31 ((List.drop 7 [c0, c1, c2, c3, c4, c5, c6, c7, c8]).take (Try.prog.cellsOf 31)) = xs[7]? := hfi 7 _ rfl
    rw [Try.cellsA] at this
    rw [← hy7]; exact this
  obtain ⟨z0, e0, _, _⟩ := DataW.trod_int Try.underlying3 g0
  obtain ⟨z1, e1, _, _⟩ := DataW.trod_int Try.underlying3 g1
  obtain ⟨z2, e2, _, _⟩ := DataW.trod_int Try.underlying3 g2
  obtain ⟨z3, e3, _, _⟩ := DataW.trod_int Try.underlying3 g3
  obtain ⟨z4, e4, _, _⟩ := DataW.trod_int Try.underlying3 g4
  obtain ⟨z5, e5, _, _⟩ := DataW.trod_string Try.underlying9 g5
  obtain ⟨z6, e6, f6, _⟩ := DataW.trod_string Try.underlying9 g6
  obtain ⟨us, n2, _, _, hl2, hlen2, hfi2⟩ := DataW.trod_struct Try.underlying31 g7
  have hu : ∀ i, i < 2 → ∃ y, us[i]? = some y := fun i hi => ⟨us[i]'(by rw [hlen2]; exact hi), List.getElem?_eq_getElem _⟩
  obtain ⟨u0, hu0⟩ := hu 0 (by decide)
  obtain ⟨u1, hu1⟩ := hu 1 (by decide)
  have k0 : DataW.trod enc Try.prog W 0 (fun _ => true) true n2 3 [c7] = some u0 := by
    have this : DataW.trod enc Try.prog W 0 (fun _ => true) true n2 3 ((List.drop 0 [c7, c8]).take (Try.prog.cellsOf 3)) = us[0]? := hfi2 0 _ rfl
    rw [Try.cellsI] at this
    rw [← hu0]; exact this
  have k1 : DataW.trod enc Try.prog W 0 (fun _ => true) true n2 3 [c8] = some u1 := by
    have this : DataW.trod enc Try.prog W 0 (fun _ => true) true n2 3 ((List.drop 1 [c7, c8]).take (Try.prog.cellsOf 3)) = us[1]? := hfi2 1 _ rfl
    rw [Try.cellsI] at this
    rw [← hu1]; exact this
  obtain ⟨r0, er0, _, _⟩ := DataW.trod_int Try.underlying3 k0
  obtain ⟨r1, er1, _, _⟩ := DataW.trod_int Try.underlying3 k1
  simp only [List.cons.injEq, and_true] at e0 e1 e2 e3 e4 e5 e6 er0 er1
  refine ⟨⟨z0, z1, z2, z3, z4, z5, z6, r0, r1⟩, by rw [e0, e1, e2, e3, e4, e5, e6, er0, er1]; rfl, ?_⟩
  have h1 := hw z6.data.toList.length (by
    rw [hxx]
    simp only [DataW.weights, Try.underlying33]
    refine DataW.weights_mem_each (j := 6) rfl (by rw [List.getElem?_map, hy6]; rfl) _ ?_
    rw [f6]
    simp [DataW.weights])
  simp only [reachBytes] at h1
  show z6.size ≤ _
  have h2 : z6.size = z6.data.toList.length := by simp
  omega
set_option maxRecDepth 20000 in
/-- a slice of calls, opened -/
theorem ops_at {W : World} {n : Nat} {v : Value} {x : DataW H × List MemPlace} (h : DataW.trod enc Try.prog W 0 (fun _ => true) true n 22 [v] = some x) (hw : ∀ k ∈ x.1.weights Try.prog 22, k ≤ reachBytes) :
    ∃ (ad : Option Addr) (cap ab ao : Nat) (l : List Oc), v = .slice ad l.length cap ∧ Or W ad ab ao l ∧ l.length ≤ 1599289640356 := by
  rcases open_slice (cs := [v]) Try.underlying22 h with ⟨hc, _⟩ | ⟨a, len, cap, m, k, D, Pl, hc, _, hl, hm, hmm, hx, hall⟩
  · simp only [List.cons.injEq, and_true] at hc
    exact ⟨none, 0, 0, 0, [], hc, ⟨fun h => absurd h (by simp), fun i h => absurd h (by simp), fun i h => absurd h (by simp)⟩, by simp⟩
  · simp only [List.cons.injEq, and_true] at hc
    simp only [if_true] at hmm
    subst hmm
    have hle : len ≤ 1599289640356 := by
      have := hw (len * 88 + (m - len) * 88) (by
        rw [hx]; simp only [DataW.weights, Try.underlying22, Try.bytesOc]
        simp only [List.length_map, List.length_range, List.mem_cons]
        left; rw [Nat.add_mul])
      simp only [reachBytes] at this; omega
    have each : ∀ i, i < len → ∃ q : Oc, (∀ k, k < 9 → W.cell? (a.add (i * 9 + k)) = q.cs[k]?) ∧ q.da.size ≤ 140737488355328 := by
      intro i hi
      obtain ⟨cs', g1, g2⟩ := hall i (by omega)
      rw [Try.cellsOc] at g1
      obtain ⟨_, hlen, hcell⟩ := World.cells?_some g1
      obtain ⟨q, rfl, hq⟩ := op_at g2 (fun k hk => hw k (by
        rw [hx]; simp only [DataW.weights, Try.underlying22]
        refine List.mem_cons_of_mem _ (List.mem_append_left _ (weights_all_mem (d := D i) ?_ k hk))
        exact List.mem_map.mpr ⟨i, List.mem_range.mpr hi, rfl⟩))
      refine ⟨q, fun k hk => ?_, hq⟩
      have hck := hcell k (by simpa using hk)
      rw [add_add] at hck
      exact hck
    have hI : Inhabited Oc := ⟨⟨0, 0, 0, 0, 0, ByteArray.empty, ByteArray.empty, 0, 0⟩⟩
    obtain ⟨q, hq⟩ := choose_lt each
    have hspot : 0 < len → a = ⟨a.block, a.off, none⟩ := fun h0 => by
      have h1 := (hq 0 h0).1 0 (by decide)
      obtain ⟨ab, ao, spot⟩ := a
      have : spot = none := by simpa [Addr.add] using World.cell?_spot h1
      rw [this]
    refine ⟨some a, m, a.block, a.off, (List.range len).map q, by rw [range_len]; exact hc, ⟨fun h => ?_, fun i hi k hk => ?_, fun i hi => ?_⟩, by rw [range_len]; exact hle⟩
    · rw [range_len] at h; rw [← hspot h]
    · have hi' := hi
      rw [range_len] at hi'
      rw [range_get]
      have h1 := (hq i hi').1 k hk
      rw [hspot (by omega), Addr.add_lit] at h1
      rw [Nat.add_assoc]
      exact h1
    · have hi' := hi
      rw [range_len] at hi'
      rw [range_get]
      exact (hq i hi').2
end
end Go.Proofs.Ytfmanndadjdpbaa.K
end

section
namespace Go.Proofs.Ytfmanndadjdpbaa.K
open Go.RowKit Go.MapKept Go.Shelf
set_option maxRecDepth 20000

/-- texts that are read -/
structure Tr (w : World) (ad : Option Addr) (ab : Nat) (L : List ByteArray) : Prop where
  at_ : 0 < L.length → ad = some ⟨ab, 0, none⟩
  c : ∀ i (h : i < L.length), w.cell? ⟨ab, i, none⟩ = some (.string L[i])
theorem own_tr {w : World} {base cap : Nat} {ad : Option Addr} {L : List ByteArray} (h : w.ownsRow base 9 1 (.slice ad L.length cap) L.length (tcs L)) : ∃ ab, Tr w ad ab L := by
  rcases own_form h with ⟨h1, h0⟩ | ⟨g, cap', h1, hg⟩
  · exact ⟨0, fun h => absurd h (by omega), fun i h => absurd h (by omega)⟩
  · injection h1 with h1 h2 h3
    subst h1
    refine ⟨g, fun _ => rfl, fun i hi => ?_⟩
    have := h.cells (g := g) rfl i (.string L[i]) (by simp [tcs, hi])
    rw [Addr.add_lit, Nat.zero_add] at this
    exact this
theorem Tr.drew {w : World} {ad : Option Addr} {ab : Nat} {L : List ByteArray} (h : Tr w ad ab L) (n : Nat) : Tr (w.drewN n) ad ab L := ⟨h.at_, h.c⟩
set_option maxHeartbeats 1000000 in
theorem texts_true {w : World} {ad ad' : Option Addr} {ab ab' cap cap' : Nat} {l : List ByteArray} (h : Tr w ad ab l) (h' : Tr w ad' ab' l) (hl : l.length ≤ 8796093021952) :
    Calls Try.prog 18 #[.slice ad l.length cap, .slice ad' l.length cap'] w fun e w' => e = .returned (.bool true) ∧ ∃ n, w' = w.drewN n := by
  go_enter Try.func18, Try.ntmps18
  go_wp2
  go_loopw [5] (fun u wr => ∃ i n : Nat, u = .int .i64 (i : Int) ∧ i ≤ l.length ∧ wr = w.drewN n) (fun u _ => (l.length - (intOf u).toNat))
  case atStart => exact ⟨0, 0, rfl, Nat.zero_le _, rfl⟩
  case round =>
    obtain ⟨i, n, rfl, hi, rfl⟩ := hrel
    by_cases hil : i < l.length
    · have ea := h.at_ (by omega)
      have ea' := h'.at_ (by omega)
      have c0 := h.c i hil
      have c1 := h'.c i hil
      generalize l[i] = s at c0 c1
      subst ea; subst ea'
      have H := hide h
      have H' := hide h'
      clear h h'
      go_wp2
      go_quiet (fail)
      go_wp2
      exact ⟨⟨i + 1, _, by go_num, by omega, rfl⟩, by simp [intOf]; omega⟩
    · obtain rfl : i = l.length := by omega
      clear h h'
      go_wp2
      go_ret
      exact ⟨rfl, _, rfl⟩
def upd (s : St) (j : Int) (p : Int × List ByteArray) : St := fun i => if i = j then p else s i
/-- what an admission says -/
theorem adm_facts {s : St} {j b x : Int} {t : ByteArray} (h : adm s j b x t = true) : 1 ≤ j ∧ j ≤ 8 ∧ 1 ≤ b ∧ b ≤ 1099511627776 ∧ (s j).1 ≤ b ∧ x ≤ 16 ∧
    (((s j).1 < b ∧ x = 0 ∧ t = ⟨#[]⟩ ∧ nxt s j b x t = upd s j (b, [])) ∨ ((s j).1 = b ∧ x = (s j).2.length + 1 ∧ nxt s j b x t = upd s j (b, (s j).2 ++ [t]))) := by
  have hn : nxt s j b x t = upd s j (b, if x = 0 then [] else (s j).2 ++ [t]) := if_pos h
  unfold adm at h
  simp only [decide_eq_true_eq] at h
  obtain ⟨h1, h2⟩ := h
  unfold pe at h1
  by_cases c1 : j < 1 ∨ 8 < j
  · rw [if_pos c1] at h1; cases h1
  rw [if_neg c1] at h1
  by_cases c2 : 32 < t.size ∨ (x = 0 ∧ t.size ≠ 0)
  · rw [if_pos c2] at h1; cases h1
  rw [if_neg c2] at h1
  by_cases c3 : b < 1 ∨ 1099511627776 < b ∨ b < (s j).1
  · rw [if_pos c3] at h1; cases h1
  rw [if_neg c3] at h1
  by_cases c4 : x < 0 ∨ 16 < x ∨ cnt s j b < x
  · rw [if_pos c4] at h1; cases h1
  clear h1
  refine ⟨by omega, by omega, by omega, by omega, by omega, by omega, ?_⟩
  unfold cnt at h2
  by_cases e : (s j).1 = b
  · rw [if_pos ⟨by omega, e⟩] at h2
    refine .inr ⟨e, h2, ?_⟩
    rw [hn, if_neg (by omega)]
  · rw [if_neg (fun h => e h.2)] at h2
    refine .inl ⟨by omega, h2, size_nil (by omega), ?_⟩
    rw [hn, if_pos h2]

section
variable {w w' : World} {a : Nat} {s : St} {vs : Nat → Value}
def updv (vs : Nat → Value) (j : Nat) (v : Value) : Nat → Value := fun i => if i = j then v else vs i
end
section
variable {w wr w2 : World} {a b : Nat} {T T' : List Ev} {s s0 s' : St} {F : Nat → Prop} {vs : Nat → Value}
theorem setI_self {α : Type} {cur : Array α} {i : Nat} {v : α} (h : cur[i]? = some v) : cur.setIfInBounds i v = cur := by
  apply Array.ext_getElem?
  intro k
  rw [Array.getElem?_setIfInBounds]
  by_cases e : i = k
  · subst e
    rw [if_pos rfl, h]
    have := (Array.getElem?_eq_some_iff.1 h).1
    rw [if_pos this]
  · rw [if_neg e]
end
/-- an op's answer -/
def nws (s : St) (o : Oc) : List Ev := if o.k = 2 then hnw s o.da else news s o.job o.bdg o.idx o.tx
def nst (s : St) (o : Oc) : St := if o.k = 2 then hst s o.da else nxt s o.job o.bdg o.idx o.tx
theorem news_or (s : St) (j b x : Int) (t : ByteArray) : (news s j b x t = [] ∧ nxt s j b x t = s) ∨ (adm s j b x t = true ∧ news s j b x t = [⟨j, b, x, t⟩]) := by
  unfold news nxt
  cases h : adm s j b x t with
  | true => exact .inr ⟨rfl, rfl⟩
  | false => exact .inl ⟨rfl, rfl⟩
theorem nws_or (s : St) (o : Oc) : (nws s o = [] ∧ nst s o = s) ∨ ∃ e : Ev, adm s e.job e.bdg e.idx e.tx = true ∧ nws s o = [e] ∧ nst s o = nxt s e.job e.bdg e.idx e.tx := by
  unfold nws nst
  by_cases hk : o.k = 2
  · rw [if_pos hk, if_pos hk]
    unfold hnw hst
    by_cases hp : isPut o.da = true
    · rw [if_pos hp, if_pos hp]
      rcases news_or s (hm o.da).jo (hm o.da).ba (hm o.da).ix (hm o.da).tx with h | ⟨h1, h2⟩
      · exact .inl h
      · exact .inr ⟨_, h1, h2, rfl⟩
    · rw [if_neg hp, if_neg hp]
      exact .inl ⟨rfl, rfl⟩
  · rw [if_neg hk, if_neg hk]
    rcases news_or s o.job o.bdg o.idx o.tx with h | ⟨h1, h2⟩
    · exact .inl h
    · exact .inr ⟨_, h1, h2, rfl⟩
end Go.Proofs.Ytfmanndadjdpbaa.K
end

section
namespace Go.Proofs.Ytfmanndadjdpbaa.K
open Go.RowKit Go.MapKept Go.Shelf
set_option maxRecDepth 20000

theorem cl_at {Y Z : List Az} (he : Y.map cl = Z.map cl) {i : Nat} (hi : i < Y.length) (hz : i < Z.length) : (Z[i]).job = (Y[i]).job ∧ (Z[i]).bdg = (Y[i]).bdg ∧ (Z[i]).pcs = (Y[i]).pcs := by
  have h1 : (Y.map cl)[i]? = (Z.map cl)[i]? := by rw [he]
  rw [List.getElem?_map, List.getElem?_map, List.getElem?_eq_getElem hi, List.getElem?_eq_getElem hz] at h1
  simp only [Option.map_some, Option.some.injEq, cl, Az.mk.injEq, true_and] at h1
  exact ⟨h1.1.symm, h1.2.1.symm, h1.2.2.symm⟩
set_option maxHeartbeats 2000000 in
/-- SameArtefacts of two rows that tell the same -/
theorem sameArts_true {w : World} {ad ad' : Option Addr} {g g' cap cap' : Nat} {Y Z : List Az} (hY : Rs w ad g 0 Y) (hZ : Rs w ad' g' 0 Z) (he : Y.map cl = Z.map cl) (hTY : ∀ y ∈ Y, ∃ gb, Tr w y.ad gb y.pcs) (hTZ : ∀ y ∈ Z, ∃ gb, Tr w y.ad gb y.pcs) (hl : Y.length ≤ 8) (hp : ∀ y ∈ Y, y.pcs.length ≤ 16) :
    Calls Try.prog 10 #[.slice ad Y.length cap, .slice ad' Z.length cap'] w fun e w' => e = .returned (.bool true) ∧ ∃ n, w' = w.drewN n := by
  have hlen : Z.length = Y.length := by have := congrArg List.length he; simpa using this.symm
  have HE := hide he
  have HY := hide hY
  have HZ := hide hZ
  have HTY := hide hTY
  have HTZ := hide hTZ
  have HP := hide hp
  have HLN := hide hlen
  rw [hlen]
  clear he hY hZ hTY hTZ hp hlen
  go_enter Try.func10, Try.ntmps10
  go_wp2
  go_loopw [5] (fun u wr => ∃ i n : Nat, u = .int .i64 (i : Int) ∧ i ≤ Y.length ∧ wr = w.drewN n) (fun u _ => (Y.length - (intOf u).toNat))
  case atStart => exact ⟨0, 0, rfl, Nat.zero_le _, rfl⟩
  case round =>
    obtain ⟨i, n, rfl, hi, hwx⟩ := hrel
    have hc : ∀ p, wr.cell? p = w.cell? p := fun p => by rw [hwx]; rfl
    have HWX := hide hwx
    clear hwx
    by_cases hil : i < Y.length
    · have hiz : i < Z.length := by have := HLN.out; omega
      have ea := HY.out.at_ (by omega)
      have ea' := HZ.out.at_ (by omega)
      obtain ⟨b0, b1, b2⟩ := HY.out.three0 hil
      obtain ⟨c0, c1, c2⟩ := HZ.out.three0 hiz
      rw [← hc] at b0 b1 b2 c0 c1 c2
      obtain ⟨e1, e2, e3⟩ := cl_at HE.out hil hiz
      obtain ⟨ga, hTa⟩ := HTY.out _ (List.getElem_mem hil)
      obtain ⟨gb, hTb⟩ := HTZ.out _ (List.getElem_mem hiz)
      have h16 := HP.out _ (List.getElem_mem hil)
      dsimp only [Az.sl] at b2 c2
      rw [e3] at hTb c2
      rw [e1] at c0
      rw [e2] at c1
      have HC : Hid (∀ n, Calls Try.prog 18 #[.slice (Y[i]).ad (Y[i]).pcs.length (Y[i]).cap, .slice (Z[i]).ad (Y[i]).pcs.length (Z[i]).cap] (wr.drewN n) fun e w' => e = .returned (.bool true) ∧ ∃ q, w' = (wr.drewN n).drewN q) := hide fun k => by
        rw [HWX.out]
        exact texts_true ((hTa.drew n).drew k) ((hTb.drew n).drew k) (by omega)
      clear e1 e2 e3 hTa hTb hc h16
      generalize (Y[i]).job = yj at *
      generalize (Y[i]).bdg = yb at *
      generalize (Y[i]).pcs = yp at *
      generalize (Y[i]).ad = yd at *
      generalize (Y[i]).cap = yc at *
      generalize (Z[i]).ad = zd at *
      generalize (Z[i]).cap = zc at *
      subst ea; subst ea'
      go_wp2_with fail
      go_quiet (first | (go_at_call 18; exact Calls.quiet_of (HC.out _)))
      go_wp2_with fail
      exact ⟨⟨i + 1, n + nq, by go_num, by omega, by rw [HWX.out, World.drewN_drewN]⟩, by simp [intOf]; omega⟩
    · obtain rfl : i = Y.length := by omega
      clear hc
      go_wp2_with fail
      go_ret
      exact ⟨rfl, n, HWX.out⟩
end Go.Proofs.Ytfmanndadjdpbaa.K
end

section
namespace Go.Proofs.Ytfmanndadjdpbaa.K
open Go.RowKit
set_option maxRecDepth 8000

/-! Puts of unlike jobs may be done job by job. -/
def stp (s : St) (o : Oc) : St := nxt s o.job o.bdg o.idx o.tx
def nn (s : St) (o : Oc) : Nat := (news s o.job o.bdg o.idx o.tx).length
def run (s : St) : List Oc → St
  | [] => s
  | o :: l => run (stp s o) l
def tot (s : St) : List Oc → Nat
  | [] => 0
  | o :: l => nn s o + tot (stp s o) l
theorem run_append (l m : List Oc) : ∀ s, run s (l ++ m) = run (run s l) m := by
  induction l with
  | nil => intro s; rfl
  | cons o l ih => intro s; exact ih _
theorem tot_append (l m : List Oc) : ∀ s, tot s (l ++ m) = tot s l + tot (run s l) m := by
  induction l with
  | nil => intro s; simp [tot, run]
  | cons o l ih => intro s; simp only [List.cons_append, tot, run, ih, Nat.add_assoc]
/-- of one job -/
def ofJ (j : Int) (l : List Oc) : List Oc := l.filter fun o => decide (o.job = j)
theorem ofJ_append (j : Int) (l m : List Oc) : ofJ j (l ++ m) = ofJ j l ++ ofJ j m := List.filter_append ..
theorem ofJ_yes {j : Int} {o : Oc} (h : o.job = j) (l : List Oc) : ofJ j (o :: l) = o :: ofJ j l := List.filter_cons_of_pos (by simpa using h)
theorem ofJ_no {j : Int} {o : Oc} (h : o.job ≠ j) (l : List Oc) : ofJ j (o :: l) = ofJ j l := List.filter_cons_of_neg (by simpa using h)
section
variable {s s' : St} {j b x : Int} {t : ByteArray}
theorem cnt_loc (h : s j = s' j) : cnt s j b = cnt s' j b := by unfold cnt; rw [h]
theorem pe_loc (h : s j = s' j) : pe s j b x t = pe s' j b x t := by unfold pe; rw [cnt_loc h, h]
theorem adm_loc (h : s j = s' j) : adm s j b x t = adm s' j b x t := by unfold adm; rw [pe_loc h, cnt_loc h]
theorem news_loc (h : s j = s' j) : news s j b x t = news s' j b x t := by unfold news; rw [adm_loc h]
theorem nxt_at (h : s j = s' j) : nxt s j b x t j = nxt s' j b x t j := by
  unfold nxt
  rw [adm_loc h]
  split
  · simp [h]
  · exact h
theorem nxt_ne {i : Int} (h : i ≠ j) : nxt s j b x t i = s i := by
  unfold nxt
  split
  · simp [h]
  · rfl
theorem news_out (h : j < 1 ∨ 8 < j) : news s j b x t = [] ∧ nxt s j b x t = s := by
  have ha : adm s j b x t = false := by
    unfold adm pe
    rw [if_pos h]
    rfl
  unfold news nxt
  rw [ha]
  exact ⟨rfl, rfl⟩
end
theorem stp_at {s s' : St} {o : Oc} (h : s o.job = s' o.job) : stp s o o.job = stp s' o o.job := nxt_at h
theorem stp_ne {s : St} {o : Oc} {i : Int} (h : i ≠ o.job) : stp s o i = s i := nxt_ne h
/-- what stands of a job hangs on what is of that job -/
theorem run_at (j : Int) : ∀ (L : List Oc) (s s' : St), s j = s' j → run s L j = run s' (ofJ j L) j
  | [], _, _, h => h
  | o :: l, s, s', h => by
    by_cases e : o.job = j
    · rw [ofJ_yes e]
      refine run_at j l _ _ ?_
      subst e
      exact stp_at h
    · rw [ofJ_no e]
      refine run_at j l _ _ ?_
      rw [stp_ne (Ne.symm e)]
      exact h
theorem run_other {j i : Int} (hne : i ≠ j) : ∀ (L : List Oc) (s : St), run s (ofJ j L) i = s i
  | [], _ => rfl
  | o :: l, s => by
    by_cases e : o.job = j
    · rw [ofJ_yes e]
      show run (stp s o) (ofJ j l) i = s i
      rw [run_other hne l, stp_ne (by rw [e]; exact hne)]
    · rw [ofJ_no e]
      exact run_other hne l s
theorem tot_loc (j : Int) : ∀ (L : List Oc) (s s' : St), s j = s' j → tot s (ofJ j L) = tot s' (ofJ j L)
  | [], _, _, _ => rfl
  | o :: l, s, s', h => by
    by_cases e : o.job = j
    · rw [ofJ_yes e]
      subst e
      show nn s o + tot (stp s o) _ = nn s' o + tot (stp s' o) _
      rw [tot_loc o.job l _ _ (stp_at h)]
      unfold nn
      rw [news_loc h]
    · rw [ofJ_no e]
      exact tot_loc j l s s' h
/-- what is told, job by job -/
def sumJ (f : Int → Nat) : Nat → Nat
  | 0 => 0
  | n + 1 => sumJ f n + f (n + 1 : Nat)
theorem sumJ_congr {f g : Int → Nat} : ∀ n, (∀ i : Nat, 1 ≤ i → i ≤ n → f i = g i) → sumJ f n = sumJ g n
  | 0, _ => rfl
  | n + 1, h => by
    show sumJ f n + _ = sumJ g n + _
    rw [sumJ_congr n fun i h1 h2 => h i h1 (by omega), h (n + 1) (by omega) (Nat.le_refl _)]
theorem sumJ_one {f g : Int → Nat} {k : Nat} {a : Nat} (hk : f k = a + g k) : ∀ n, 1 ≤ k → k ≤ n → (∀ i : Nat, 1 ≤ i → i ≤ n → i ≠ k → f i = g i) → sumJ f n = a + sumJ g n
  | 0, h1, h2, _ => by omega
  | n + 1, h1, h2, h => by
    show sumJ f n + f (n + 1 : Nat) = a + (sumJ g n + g (n + 1 : Nat))
    by_cases e : k = n + 1
    · subst e
      rw [sumJ_congr n fun i h3 h4 => h i h3 (by omega) (by omega), hk]
      omega
    · rw [sumJ_one hk n h1 (by omega) fun i h3 h4 h5 => h i h3 (by omega) h5, h (n + 1) (by omega) (Nat.le_refl _) (by omega)]
      omega
theorem tot_jobs : ∀ (L : List Oc) (s : St), tot s L = sumJ (fun j => tot s (ofJ j L)) 8
  | [], s => rfl
  | o :: l, s => by
    show nn s o + tot (stp s o) l = _
    rw [tot_jobs l (stp s o)]
    by_cases h : o.job < 1 ∨ 8 < o.job
    · obtain ⟨h1, h2⟩ := news_out (s := s) (b := o.bdg) (x := o.idx) (t := o.tx) h
      have e1 : nn s o = 0 := by unfold nn; rw [h1]; rfl
      have e2 : stp s o = s := h2
      rw [e1, e2, Nat.zero_add]
      refine sumJ_congr 8 fun i h3 h4 => ?_
      rw [ofJ_no (by omega)]
    · obtain ⟨k, hk⟩ : ∃ k : Nat, o.job = (k : Int) := ⟨o.job.toNat, by omega⟩
      refine (sumJ_one (k := k) (a := nn s o) ?_ 8 (by omega) (by omega) fun i h3 h4 h5 => ?_).symm
      · rw [ofJ_yes hk]
        rfl
      · rw [ofJ_no (by omega)]
        refine tot_loc _ l _ _ ?_
        rw [stp_ne (by omega)]
theorem nn_le (s : St) (o : Oc) : nn s o ≤ 1 := by
  unfold nn news
  split <;> simp
theorem tot_le : ∀ (L : List Oc) (s : St), tot s L ≤ L.length
  | [], _ => Nat.le_refl _
  | o :: l, s => by
    have h1 := nn_le s o
    have h2 := tot_le l (stp s o)
    show nn s o + tot (stp s o) l ≤ l.length + 1
    omega
end Go.Proofs.Ytfmanndadjdpbaa.K
end

section
namespace Go.Proofs.Ytfmanndadjdpbaa.K
open Go.RowKit Go.MapKept Go.Shelf
set_option maxRecDepth 20000

/-- two sinks that a law made -/
structure Dj (w : World) (b c : Nat) (s u : St) (T U : List Ev) (F G : Nat → Prop) (wr : World) : Prop where
  one : Sk wr b s T F
  two : Sk wr c u U G
  dis : ∀ k, F k → ¬ G k
  lo1 : ∀ k, F k → w.heap.size ≤ k
  lo2 : ∀ k, G k → w.heap.size ≤ k
  low : Below w.heap.size w wr
section
variable {w wr w2 : World} {b c : Nat} {s u s' u' : St} {T U T' U' : List Ev} {F G : Nat → Prop}
theorem low_gp {F : Nat → Prop} (hl : Below w.heap.size w wr) (lo : ∀ k, F k → w.heap.size ≤ k) (h2 : Mv F wr w2) : Below w.heap.size w w2 := by
  have hsz := hl.size
  exact ⟨h2.os.trans hl.os, h2.tape.trans hl.tape, h2.output.trans hl.output, Nat.le_trans hsz h2.size, fun k hk => (h2.block k (by omega) (fun hf => by have := lo k hf; omega)).trans (hl.block k hk)⟩
theorem Dj.step1 (h : Dj w b c s u T U F G wr) (hg : Gp F b s' T' wr w2) : ∃ F', Dj w b c s' u T' U F' G w2 := by
  obtain ⟨F', h1, h2, h3⟩ := hg
  have hsz := h.low.size
  refine ⟨F', h1, h.two.keep fun k hk => h2.block k (h.two.lt k hk) (fun hf => h.dis k hf hk), fun k hk hg => ?_, fun k hk => ?_, h.lo2, low_gp h.low h.lo1 h2⟩
  · rcases h3 k hk with h4 | h4
    · exact h.dis k h4 hg
    · have := h.two.lt k hg; omega
  · rcases h3 k hk with h4 | h4
    · exact h.lo1 k h4
    · omega
theorem Dj.swap (h : Dj w b c s u T U F G wr) : Dj w c b u s U T G F wr := ⟨h.two, h.one, fun k hg hf => h.dis k hf hg, h.lo2, h.lo1, h.low⟩
theorem Dj.step2 (h : Dj w b c s u T U F G wr) (hg : Gp G c u' U' wr w2) : ∃ G', Dj w b c s u' T U' F G' w2 := by
  obtain ⟨G', h1⟩ := h.swap.step1 hg
  exact ⟨G', h1.swap⟩
theorem Dj.drew (h : Dj w b c s u T U F G wr) : Dj w b c s u T U F G wr.drew := ⟨h.one.keep fun _ _ => rfl, h.two.keep fun _ _ => rfl, h.dis, h.lo1, h.lo2, h.low.drew⟩
theorem Dj.below (h : Dj w b c s u T U F G wr) (hb : Below wr.heap.size wr w2) : Dj w b c s u T U F G w2 := ⟨h.one.below hb, h.two.below hb, h.dis, h.lo1, h.lo2, h.low.trans (hb.mono h.low.size)⟩
end
theorem rise_ext : ∀ {A B : List Az}, Rise A → Rise B → (∀ x, x ∈ A ↔ x ∈ B) → A = B
  | [], [], _, _, _ => rfl
  | [], b :: B, _, _, h => absurd ((h b).2 (.head _)) (List.not_mem_nil)
  | a :: A, [], _, _, h => absurd ((h a).1 (.head _)) (List.not_mem_nil)
  | a :: A, b :: B, hA, hB, h => by
    obtain ⟨a1, a2⟩ := List.pairwise_cons.1 hA
    obtain ⟨b1, b2⟩ := List.pairwise_cons.1 hB
    have e : a = b := by
      rcases List.mem_cons.1 ((h a).1 (.head _)) with h1 | h1
      · exact h1
      · rcases List.mem_cons.1 ((h b).2 (.head _)) with h2 | h2
        · exact h2.symm
        · have := b1 a h1; have := a1 b h2; omega
    subst e
    rw [rise_ext a2 b2 fun x => ⟨fun hx => ?_, fun hx => ?_⟩]
    · rcases List.mem_cons.1 ((h x).1 (.tail _ hx)) with h1 | h1
      · subst h1; have := a1 x hx; omega
      · exact h1
    · rcases List.mem_cons.1 ((h x).2 (.tail _ hx)) with h1 | h1
      · subst h1; have := b1 x hx; omega
      · exact h1
/-- the artefacts of one state are one list -/
theorem ls_eq {s : St} {Y Z : List Az} (hY : Ls s Y) (hZ : Ls s Z) : Y.map cl = Z.map cl := by
  have key : ∀ {A B : List Az}, Ls s A → Ls s B → ∀ x, x ∈ A.map cl → x ∈ B.map cl := fun {A B} hA hB x hx => by
    obtain ⟨a, ha, rfl⟩ := List.mem_map.1 hx
    have h1 := hA.at_ a ha
    obtain ⟨b, hb, hj⟩ := hB.all a.job (by rw [h1]; exact (hA.ok a ha).2.2.1)
    have h2 := hB.at_ b hb
    rw [hj, h1] at h2
    injection h2 with h3 h4
    refine List.mem_map.2 ⟨b, hb, ?_⟩
    unfold cl
    rw [hj, h3, h4]
  exact rise_ext (rise_cl hY.rise) (rise_cl hZ.rise) fun x => ⟨key hY hZ x, key hZ hY x⟩
theorem run_loc (j : Int) (L : List Oc) {s s' : St} (h : s j = s' j) : run s (ofJ j L) j = run s' (ofJ j L) j := by
  rw [← run_at j L s s rfl, run_at j L s s' h]
/-- four cells of an Op -/
theorem four_at {w : World} {ad : Option Addr} {ab ao : Nat} {L : List Oc} (h : Or w ad ab ao L) {i : Nat} (hi : i < L.length) : w.cell? ⟨ab, ao + i * 9 + 2, none⟩ = some (.int .i64 (L[i]).job) ∧ w.cell? ⟨ab, ao + i * 9 + 3, none⟩ = some (.int .i64 (L[i]).bdg) ∧ w.cell? ⟨ab, ao + i * 9 + 4, none⟩ = some (.int .i64 (L[i]).idx) ∧ w.cell? ⟨ab, ao + i * 9 + 5, none⟩ = some (.string (L[i]).tx) := by
  obtain ⟨_, _, c2, c3, c4, c5, _⟩ := h.nine hi
  exact ⟨c2, c3, c4, c5⟩
end Go.Proofs.Ytfmanndadjdpbaa.K
end
