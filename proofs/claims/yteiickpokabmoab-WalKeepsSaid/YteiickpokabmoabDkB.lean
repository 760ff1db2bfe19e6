import Derived.Test.YteiickpokabmoabDkA
namespace Go.Proofs.Yteiickpokabmoab.D
open Go.RowKit

/-- blocks F of w are turned, F' is what they have become -/
structure Mv (F F' : Nat → Prop) (w w' : World) : Prop where
  os : w'.os = w.os
  tape : w'.tape = w.tape
  output : w'.output = w.output
  size : w.heap.size ≤ w'.heap.size
  block : ∀ k, k < w.heap.size → ¬ F k → w'.heap[k]? = w.heap[k]?
  foot : ∀ k, F' k → F k ∨ w.heap.size ≤ k
theorem Mv.trans {F G H : Nat → Prop} {a b c : World} (h : Mv F G a b) (k : Mv G H b c) : Mv F H a c :=
  ⟨k.os.trans h.os, k.tape.trans h.tape, k.output.trans h.output, Nat.le_trans h.size k.size,
    fun i hi hf => (k.block i (Nat.lt_of_lt_of_le hi h.size) (fun hg => (h.foot i hg).elim hf (fun h2 => absurd hi (by omega)))).trans (h.block i hi hf),
    fun i hi => (k.foot i hi).elim (h.foot i) (fun h2 => .inr (Nat.le_trans h.size h2))⟩
theorem Mv.below {F F' : Nat → Prop} {w w' : World} (h : Mv F F' w w') {B : Nat} (hB : B ≤ w.heap.size) (hF : ∀ k, F k → B ≤ k) : Below B w w' :=
  ⟨h.os, h.tape, h.output, h.size, fun k hk => h.block k (by omega) (fun hf => absurd (hF k hf) (by omega))⟩
theorem Mv.of_below {F : Nat → Prop} {w w' : World} (h : Below w.heap.size w w') : Mv F F w w' :=
  ⟨h.os, h.tape, h.output, h.size, fun k hk _ => h.block k hk, fun _ hk => .inl hk⟩
theorem Mv.refl {F : Nat → Prop} (w : World) : Mv F F w w := ⟨rfl, rfl, rfl, Nat.le_refl _, fun _ _ _ => rfl, fun _ h => .inl h⟩
theorem below_up {B : Nat} {a b : World} (h : Below B a b) {C : Nat} (hc : C ≤ B) : Below C a b := ⟨h.os, h.tape, h.output, h.size, fun k hk => h.block k (by omega)⟩
theorem own_base {w : World} {B base : Nat} {e : TypeId} {size n : Nat} {v : Value} {xs : List Value} (h : w.ownsRow B e size v n xs) (hb : base ≤ B) : w.ownsRow base e size v n xs := by
  refine ⟨h.1, ?_⟩
  rcases h.2 with h1 | ⟨g, cap, cur, rfl, hg, h2⟩
  · exact .inl h1
  · exact .inr ⟨g, cap, cur, rfl, Nat.le_trans hb hg, h2⟩
theorem own_keep {w w' : World} {B : Nat} {e : TypeId} {size n : Nat} {v : Value} {xs : List Value} (h : w.ownsRow B e size v n xs) (hk : ∀ k, v.ownBlock = some k → w'.heap[k]? = w.heap[k]?) : w'.ownsRow B e size v n xs := by
  refine ⟨h.1, ?_⟩
  rcases h.2 with h1 | ⟨g, cap, cur, rfl, hg, hb, h2⟩
  · exact .inl h1
  · exact .inr ⟨g, cap, cur, rfl, hg, (hk g rfl).trans hb, h2⟩
theorem own_form {w : World} {B : Nat} {e : TypeId} {size n : Nat} {v : Value} {xs : List Value} (h : w.ownsRow B e size v n xs) : (v = .slice none 0 0 ∧ n = 0) ∨ ∃ g cap, v = .slice (some ⟨g, 0, none⟩) n cap ∧ g < w.heap.size ∧ n ≤ cap ∧ cap ≤ 9223372036854775807 := by
  rcases h.2 with h1 | ⟨g, cap, cur, rfl, hg, hh, h1, h2, _⟩
  · exact .inl h1
  · exact .inr ⟨g, cap, rfl, lt_of_block hh, h1, by unfold maxLen at h2; omega⟩
theorem own_slice {w : World} {B : Nat} {e : TypeId} {size n : Nat} {v : Value} {xs : List Value} (h : w.ownsRow B e size v n xs) : ∃ ad cap, v = .slice ad n cap := by
  rcases own_form h with ⟨h1, h2⟩ | ⟨g, cap, h1, _⟩
  · exact ⟨_, _, by rw [h2]; exact h1⟩
  · exact ⟨_, _, h1⟩

/-- a disk of the program: its block and its two rows -/
structure DkV (base : Nat) (w : World) (b : Nat) (vs vr : Value) (d : DS) : Prop where
  blk : w.heap[b]? = some (.cells #[vs, vr, .bool d.dead, .int .i64 d.left, .int .i64 d.byt] 45 (0, 0))
  low : base ≤ b
  sec : w.ownsRow base 48 128 vs d.S.length (scs d.S)
  raw : w.ownsRow base 51 2 vr d.R.length (wcs d.R)
  a1 : vs.ownBlock ≠ some b
  a2 : vr.ownBlock ≠ some b
  a3 : ∀ k, vs.ownBlock = some k → vr.ownBlock ≠ some k
  ok : d.ok
/-- its blocks -/
def Fd (b : Nat) (vs vr : Value) (k : Nat) : Prop := k = b ∨ vs.ownBlock = some k ∨ vr.ownBlock = some k
/-- a disk, F its blocks -/
def Dk (base : Nat) (w : World) (b : Nat) (F : Nat → Prop) (d : DS) : Prop := ∃ vs vr, DkV base w b vs vr d ∧ F = Fd b vs vr

section
variable {base : Nat} {w : World} {b : Nat} {vs vr : Value} {d : DS}
theorem DkV.lt (h : DkV base w b vs vr d) : b < w.heap.size := lt_of_block h.blk
theorem DkV.c0 (h : DkV base w b vs vr d) : w.cell? ⟨b, 0, none⟩ = some vs := by have := h.blk; simp [World.cell?, this]
theorem DkV.c1 (h : DkV base w b vs vr d) : w.cell? ⟨b, 1, none⟩ = some vr := by have := h.blk; simp [World.cell?, this]
theorem DkV.c2 (h : DkV base w b vs vr d) : w.cell? ⟨b, 2, none⟩ = some (.bool d.dead) := by have := h.blk; simp [World.cell?, this]
theorem DkV.c3 (h : DkV base w b vs vr d) : w.cell? ⟨b, 3, none⟩ = some (.int .i64 d.left) := by have := h.blk; simp [World.cell?, this]
theorem DkV.c4 (h : DkV base w b vs vr d) : w.cell? ⟨b, 4, none⟩ = some (.int .i64 d.byt) := by have := h.blk; simp [World.cell?, this]
theorem DkV.z (h : DkV base w b vs vr d) (k : Nat) : w.frozen? ⟨b, k, none⟩ = false := by have := h.blk; simp [World.frozen?, this]
theorem DkV.ftlt (h : DkV base w b vs vr d) : ∀ k, Fd b vs vr k → base ≤ k ∧ k < w.heap.size := by
  rintro k (rfl | hk | hk)
  · exact ⟨h.low, h.lt⟩
  · exact h.sec.lt k hk
  · exact h.raw.lt k hk
theorem DkV.keep {w' : World} (h : DkV base w b vs vr d) (hs : ∀ k, Fd b vs vr k → w'.heap[k]? = w.heap[k]?) : DkV base w' b vs vr d :=
  ⟨(hs b (.inl rfl)).trans h.blk, h.low, own_keep h.sec (fun k hk => hs k (.inr (.inl hk))), own_keep h.raw (fun k hk => hs k (.inr (.inr hk))), h.a1, h.a2, h.a3, h.ok⟩
/-- the block alone is written to -/
theorem DkV.put {w' : World} {d' : DS} (h : DkV base w b vs vr d) (hb : w'.heap[b]? = some (.cells #[vs, vr, .bool d'.dead, .int .i64 d'.left, .int .i64 d'.byt] 45 (0, 0)))
    (hs : ∀ k, k ≠ b → Fd b vs vr k → w'.heap[k]? = w.heap[k]?) (hS : d'.S = d.S) (hR : d'.R = d.R) (ok : d'.ok) : DkV base w' b vs vr d' :=
  ⟨hb, h.low, by rw [hS]; exact own_keep h.sec (fun k hk => hs k (fun e => h.a1 (by rw [← e]; exact hk)) (.inr (.inl hk))), by rw [hR]; exact own_keep h.raw (fun k hk => hs k (fun e => h.a2 (by rw [← e]; exact hk)) (.inr (.inr hk))), h.a1, h.a2, h.a3, ok⟩
theorem Dk.lt {F : Nat → Prop} (h : Dk base w b F d) : b < w.heap.size := by obtain ⟨_, _, h, _⟩ := h; exact h.lt
theorem Dk.ok {F : Nat → Prop} (h : Dk base w b F d) : d.ok := by obtain ⟨_, _, h, _⟩ := h; exact h.ok
theorem Dk.has {F : Nat → Prop} (h : Dk base w b F d) : F b := by obtain ⟨_, _, h, rfl⟩ := h; exact .inl rfl
theorem Dk.ftlt {F : Nat → Prop} (h : Dk base w b F d) : ∀ k, F k → base ≤ k ∧ k < w.heap.size := by obtain ⟨_, _, h, rfl⟩ := h; exact h.ftlt
theorem Dk.ftlow {F : Nat → Prop} (h : Dk base w b F d) : ∀ k, F k → base ≤ k := fun k hk => (h.ftlt k hk).1
theorem Dk.keep {w' : World} {F : Nat → Prop} (h : Dk base w b F d) (hs : ∀ k, F k → w'.heap[k]? = w.heap[k]?) : Dk base w' b F d := by
  obtain ⟨vs, vr, h, rfl⟩ := h
  exact ⟨vs, vr, h.keep hs, rfl⟩
theorem Dk.below {w' : World} {F : Nat → Prop} (h : Dk base w b F d) (hb : Below w.heap.size w w') : Dk base w' b F d :=
  h.keep fun k hk => hb.block k (h.ftlt k hk).2
theorem Dk.alloc {F : Nat → Prop} (h : Dk base w b F d) (o : Obj) : Dk base (w.alloc o) b F d := h.below ((Below.refl _ w).alloc (Nat.le_refl _) o)
theorem Dk.drew {F : Nat → Prop} (h : Dk base w b F d) : Dk base w.drew b F d := h.keep fun _ _ => rfl
theorem Dk.mv {w' : World} {F G G' : Nat → Prop} (h : Dk base w b F d) (hm : Mv G G' w w') (ha : ∀ k, F k → ¬ G k) : Dk base w' b F d :=
  h.keep fun k hk => hm.block k (h.ftlt k hk).2 (ha k hk)
theorem Dk.lower {F : Nat → Prop} (h : Dk base w b F d) {B : Nat} (hB : B ≤ base) : Dk B w b F d := by
  obtain ⟨vs, vr, h, rfl⟩ := h
  exact ⟨vs, vr, ⟨h.blk, Nat.le_trans hB h.low, own_base h.sec hB, own_base h.raw hB, h.a1, h.a2, h.a3, h.ok⟩, rfl⟩
end

/-- copy of a text into the middle of a row -/
theorem run_copy_str {P : Program} (w : World) (dT sT ty elem : TypeId) (g o dLen dCap : Nat) (data : ByteArray) (cur : Array Value) (t : TypeId)
    (hu : P.underlying dT = some (.slice elem)) (hs : (P.info? elem).map (·.size) = some 1)
    (hg : w.heap[g]? = some (.cells cur t (0, 0))) (hn : data.size ≤ dLen) (hfit : o + data.size ≤ cur.size) :
    (Builtin.copy_ #[dT, sT] ty #[.slice (some ⟨g, o, none⟩) dLen dCap, .string data]).run P w =
      .ok (goInt data.size) (w.setRow g (splice cur.toList o (sc data)).toArray) := by
  have hst := run_storeCells_at P g o t (sc data) 0 cur w hg (by rw [sc_len]; simpa using hfit) (sc_one data)
  have hx : (Array.map (fun b : UInt8 => Value.int .u8 (b.toNat : Int)) (data.extract 0 data.size).data).toList = sc data := by
    rw [Array.toList_map, sc]; simp
  cases hq : P.info? elem with
  | none => simp [hq] at hs
  | some i =>
    have hmin : Nat.min data.size dLen = data.size := Nat.min_eq_left hn
    have hfc : ∀ k, Builtin.firstCells k data.size (.string data) = pure (sc data).toArray := by
      intro k
      show (pure (Array.map (fun b : UInt8 => Value.int .u8 (b.toNat : Int)) (data.extract 0 data.size).data) : Sem (Array Value)) = _
      rw [← hx, Array.toArray_toList]
    rw [List.append_assoc, Nat.add_zero] at hst
    simp [Builtin.copy_, run_underlying hu, Builtin.lenOf, hfc, sizeOf, typeInfo, hq, hmin, hst, splice]
theorem wpList_copy_str {P : Program} {w : World} {ops : Array Oper} {rest : List Oper} {o : Oper} {a : Act} {Q : Exit → Act → World → Prop} (hgd : o.guard = none) (d s : Operand) (dT sT : TypeId)
    (ho : o.op = .call { callee := .builtin .copy, args := #[d, s], argTypes := #[dT, sT] }) (elem : TypeId) (hu : P.underlying dT = some (.slice elem)) (hsz : (P.info? elem).map (·.size) = some 1)
    (g off dLen dCap : Nat) (data : ByteArray) (hd : a.eval d = .slice (some ⟨g, off, none⟩) dLen dCap) (hs : a.eval s = .string data)
    (cur : Array Value) (t : TypeId) (hg : w.heap[g]? = some (.cells cur t (0, 0))) (hn : data.size ≤ dLen) (hfit : off + data.size ≤ cur.size)
    (h : wpList P ops Q rest (a.put o.dst (goInt data.size)) (w.setRow g (splice cur.toList off (sc data)).toArray)) : wpList P ops Q (o :: rest) a w := by
  refine wpList_plain hgd fun K hK => ?_
  have hrun := run_copy_str (P := P) w dT sT o.type elem g off dLen dCap data cur t hu hsz hg hn hfit
  unfold Oper.wp
  simp [execOp, ho, resolve, invoke, builtin, hd, hs, hrun, Result.andThen]
  exact hK _ _ h
theorem splice_append {α : Type} (A B : List α) (off : Nat) (cs : List α) (h : off + cs.length ≤ A.length) : splice (A ++ B) off cs = splice A off cs ++ B := by
  unfold splice
  rw [List.take_append_of_le_length (by omega), List.drop_append_of_le_length h]
  simp
theorem splice_take {α : Type} (L : List α) (off n : Nat) (cs : List α) (h : off + cs.length ≤ n) (hn : n ≤ L.length) : (splice L off cs).take n = splice (L.take n) off cs := by
  have hl : (L.take n).length = n := by rw [List.length_take]; omega
  rw [← List.take_append_drop n L, splice_append _ _ _ _ (by omega), List.take_append_drop, List.take_append_of_le_length (by rw [length_splice _ _ _ (by omega)]; omega), List.take_of_length_le (by rw [length_splice _ _ _ (by omega)]; omega)]
/-- a row of its own, of which the middle is new -/
theorem own_splice {w : World} {B : Nat} {e : TypeId} {size n g cap : Nat} {xs : List Value} (h : w.ownsRow B e size (.slice (some ⟨g, 0, none⟩) n cap) n xs) :
    ∃ cur, w.heap[g]? = some (.cells cur e (0, 0)) ∧ n * size ≤ cur.size ∧ ∀ off cs, off + cs.length ≤ n * size → (w.setRow g (splice cur.toList off cs).toArray).ownsRow B e size (.slice (some ⟨g, 0, none⟩) n cap) n (splice xs off cs) := by
  obtain ⟨hl, h2⟩ := h
  rcases h2 with ⟨h1, _⟩ | ⟨g', cap', cur, h1, hb, hg, hc, hm, hs, ht⟩
  · cases h1
  · injection h1 with h1 h2 h3
    injection h1 with h1
    injection h1 with h1
    subst h1; subst h3
    have hle : n * size ≤ cur.size := by rw [hs]; exact Nat.mul_le_mul_right _ hc
    refine ⟨cur, hg, hle, fun off cs hf => ⟨by rw [length_splice _ _ _ (by omega)]; exact hl, .inr ⟨g, cap, _, rfl, hb, setRow_heap w g _ _ e _ hg, hc, hm, ?_, ?_⟩⟩⟩
    · rw [List.size_toArray, length_splice _ _ _ (by have := cur.length_toList; omega), Array.length_toList]; exact hs
    · rw [List.toList_toArray, splice_take _ _ _ _ hf (by rw [Array.length_toList]; exact hle), ht]
end Go.Proofs.Yteiickpokabmoab.D
