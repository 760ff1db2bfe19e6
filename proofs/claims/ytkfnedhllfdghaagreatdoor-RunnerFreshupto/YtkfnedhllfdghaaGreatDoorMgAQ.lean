import Derived.Test.YtkfnedhllfdghaaGreatDoorMgAP
import Derived.Test.YtkfnedhllfdghaaGreatDoorMgAJ
import Derived.Test.YtkfnedhllfdghaaGreatDoorMgAN

section
namespace Go.Proofs.YtkfnedhllfdghaaGreatDoor
set_option maxRecDepth 20000
open Go.RowKit Go.Shelf

theorem tab64_below' {a b : World} (h : Tab64 a) (k : Below a.heap.size a b) : Tab64 b := fun j hj => (k.cell (p := ⟨2, j, none⟩) (World.block_lt_of_cell? _ _ (h j hj))).trans (h j hj)
/-- the two tables of the library -/
structure Tabs (w : World) : Prop where
  t64 : Tab64 w
  t10 : Tab10 w
theorem Tabs.below {a b : World} (h : Tabs a) {n : Nat} (k : Below n a b) (hn : a.heap.size ≤ n) : Tabs b := ⟨tab64_below' h.t64 (k.mono hn), tab10_below h.t10 (k.mono hn)⟩
namespace Pg
def fieldT (l v : Nat) : ByteArray := if l = 75 then textB v else if l = 78 then ⟨(Lib.decDigits v).toArray⟩ else (⟨#[114]⟩ : ByteArray) ++ ⟨(Lib.decDigits v).toArray⟩
def goT (x : In) : List UInt8 → ByteArray → ByteArray
  | [], acc => acc
  | l :: r, acc => goT x r (acc ++ ((⟨#[32]⟩ : ByteArray) ++ fieldT l.toNat (get x l.toNat)))
def insT (x : In) : ByteArray := goT x (shape x.op).1.flds.data.toList (shape x.op).1.word
def fieldB (x : In) (l : Nat) : ByteArray := if l = 75 then ⟨(Pk.big8 x.k).toArray⟩ else ⟨(Pk.enc (get x l)).toArray⟩
def goB (x : In) : List UInt8 → ByteArray → ByteArray
  | [], acc => acc
  | l :: r, acc => goB x r (acc ++ fieldB x l.toNat)
def insB (x : In) : ByteArray := goB x (shape x.op).1.flds.data.toList ⟨(Pk.enc (un x.op)).toArray⟩
def okF (s : Sh) : Bool := decide (s.flds.size ≤ 3) && s.flds.data.toList.all (fun c => decide (c.toNat < 128)) && decide (s.word.size ≤ 5)
theorem tbl_ok : tbl.all okF = true := by decide
theorem find_ok (p : Sh → Bool) : okF (find p).1 = true := by
  unfold find
  cases h : tbl.findIdx? p with
  | none => rfl
  | some k =>
    have hk : k < tbl.length := (List.findIdx?_eq_some_iff_getElem.1 h).1
    show okF tbl[k]! = true
    rw [getElem!_pos tbl k hk]
    exact List.all_eq_true.1 tbl_ok _ (List.getElem_mem hk)
theorem shape_ok (op : Int) : (shape op).1.flds.size ≤ 3 ∧ (∀ c ∈ (shape op).1.flds.data.toList, c.toNat < 128) ∧ (shape op).1.word.size ≤ 5 := by
  have h := find_ok (fun s => s.op == op)
  unfold okF at h
  simp only [Bool.and_eq_true, decide_eq_true_eq, List.all_eq_true] at h
  exact ⟨h.1.1, h.1.2, h.2⟩
end Pg
theorem textB_len (v : Nat) (hv : v < 18446744073709551616) : (textB v).size ≤ 101 := by
  have hc : Gn.canonW v < 18446744073709551616 := by unfold Gn.canonW; split <;> omega
  unfold textB
  split
  · exact Nat.le_succ_of_le (amt_size _)
  · rw [ByteArray.size_append]
    have := amt_size (Gn.canonW v % 9223372036854775808)
    show 1 + _ ≤ 101
    omega
theorem fieldT_len (l v : Nat) (hv : v < 18446744073709551616) : (Pg.fieldT l v).size ≤ 101 := by
  have := nd_le v hv
  have := textB_len v hv
  unfold Pg.fieldT
  repeat' split
  · assumption
  · show (Lib.decDigits v).toArray.size ≤ 101; simp; omega
  · rw [ByteArray.size_append]; show 1 + (Lib.decDigits v).toArray.size ≤ 101; simp; omega
theorem fieldB_len (x : In) (hx : x.k < 18446744073709551616) (l : Nat) : (Pg.fieldB x l).size ≤ 10 := by
  unfold Pg.fieldB
  split
  · show 8 ≤ 10; decide
  · have := Pk.enc_ten (get_lt x hx l); show (Pk.enc _).toArray.size ≤ 10; simpa using this
theorem at_toList (s : ByteArray) (k : Nat) (h : k < s.size) : s.data.toList.drop k = s[k] :: s.data.toList.drop (k + 1) := by
  have h' : k < s.data.toList.length := by rw [Array.length_toList]; exact h
  rw [List.drop_eq_getElem_cons h']
  rfl
theorem at_mem (s : ByteArray) (k : Nat) (h : k < s.size) : s[k] ∈ s.data.toList := by
  have h' : k < s.data.toList.length := by rw [Array.length_toList]; exact h
  exact List.getElem_mem h'
theorem fin_toList (s : ByteArray) : s.data.toList.drop s.size = [] := by
  apply List.drop_eq_nil_of_le
  rw [Array.length_toList]
  exact Nat.le_refl _
end Go.Proofs.YtkfnedhllfdghaaGreatDoor
end

section
namespace Go.Proofs.YtkfnedhllfdghaaGreatDoor
set_option maxRecDepth 20000
open Go.RowKit Go.Shelf

theorem ownsRowF_below {w w' : World} {base e size n m : Nat} {v : Value} {xs : List Value} (h : w.ownsRowF base e size v n xs) (hb : Below m w w') (hm : w.heap.size ≤ m) : w'.ownsRowF base e size v n xs := by
  refine ⟨h.1, ?_⟩
  rcases h.2 with hn | ⟨g, cap, cur, fz, hv, hbg, hg, rest⟩
  · exact .inl hn
  · exact .inr ⟨g, cap, cur, fz, hv, hbg, (hb.block g (Nat.lt_of_lt_of_le (lt_of_block hg) hm)).trans hg, rest⟩
theorem builder_below {T e B b m : Nat} {bs : List Value} {w w' : World} (h : Lib.IsBuilderF T e B b bs w) (hb : Below m w w') (hm : w.heap.size ≤ m) : Lib.IsBuilderF T e B b bs w' := by
  rcases h with ⟨hB, v, hv, hown, hne⟩ | ⟨hB, v, hv, hown, hne⟩
  · exact .inl ⟨hB, v, (hb.block b (Nat.lt_of_lt_of_le (lt_of_block hv) hm)).trans hv, ownsRowF_below hown hb hm, hne⟩
  · exact .inr ⟨hB, v, (hb.block b (Nat.lt_of_lt_of_le (lt_of_block hv) hm)).trans hv, ownsRowF_below hown hb hm, hne⟩
theorem builder_lt {T e B b : Nat} {bs : List Value} {w : World} (h : Lib.IsBuilderF T e B b bs w) : b < w.heap.size := by
  rcases h with ⟨_, v, hv, _⟩ | ⟨_, v, hv, _⟩ <;> exact lt_of_block hv
namespace Pg
def allB : List In → List UInt8 → List UInt8
  | [], acc => acc
  | x :: r, acc => allB r (acc ++ (insB x).data.toList)
def packB (fuel : Int) (xs : List In) : List UInt8 := allB xs (Pk.enc (un fuel) ++ Pk.enc (un xs.length))
def packS (fuel : Int) (xs : List In) : ByteArray := if (checkE fuel xs).1 = 0 then ⟨(packB fuel xs).toArray⟩ else ⟨#[]⟩
theorem goB_len (x : In) (hx : x.k < 18446744073709551616) : ∀ (l : List UInt8) (acc : ByteArray), (goB x l acc).size ≤ acc.size + 10 * l.length
  | [], acc => by simp [goB]
  | c :: r, acc => by
    unfold goB
    have h1 := goB_len x hx r (acc ++ fieldB x c.toNat)
    have h2 := fieldB_len x hx c.toNat
    rw [ByteArray.size_append] at h1
    simp only [List.length_cons]
    omega
theorem insB_len (x : In) (hx : x.k < 18446744073709551616) : (insB x).size ≤ 40 := by
  have h1 := goB_len x hx (shape x.op).1.flds.data.toList ⟨(Pk.enc (un x.op)).toArray⟩
  have h2 := (shape_ok x.op).1
  have h3 := Pk.enc_ten (un_lt x.op)
  have h4 : (shape x.op).1.flds.data.toList.length = (shape x.op).1.flds.size := by rw [Array.length_toList]; rfl
  have h5 : (⟨(Pk.enc (un x.op)).toArray⟩ : ByteArray).size ≤ 10 := by show (Pk.enc _).toArray.size ≤ 10; simpa using h3
  unfold insB
  omega
end Pg
theorem checkE_two (fuel : Int) (xs : List In) (h : (Pg.checkE fuel xs).1 = 0) : 1 ≤ fuel ∧ fuel ≤ 1024 ∧ 1 ≤ xs.length ∧ xs.length ≤ 64 := by
  unfold Pg.checkE at h
  split at h
  · cases h
  split at h
  · cases h
  omega
theorem allB_drop (xs : List In) (k : Nat) (h : k < xs.length) (acc : List UInt8) : Pg.allB (xs.drop k) acc = Pg.allB (xs.drop (k + 1)) (acc ++ (Pg.insB xs[k]!).data.toList) := by
  rw [List.drop_eq_getElem_cons h, getElem!_pos xs k h]
  rfl
theorem app_len {acc : List UInt8} {I : ByteArray} {A k c : Nat} (h1 : I.size ≤ c) (h2 : acc.length ≤ A + k * c) : (acc ++ I.data.toList).length ≤ A + (k + 1) * c := by
  have e : (acc ++ I.data.toList).length = acc.length + I.size := by rw [List.length_append, Array.length_toList]; rfl
  rw [e, Nat.add_mul]; omega
theorem pnum_wrap (u : Int) (w : World) : Calls Tryz.prog 130 #[.int .u64 (IntKind.u64.wrap u)] w fun e w' => e = .returned (.string ⟨(Pk.enc (Pg.un u)).toArray⟩) ∧ Below w.heap.size w w' := by
  rw [un_wrap]; exact pnum_any _ (un_lt u) w
end Go.Proofs.YtkfnedhllfdghaaGreatDoor
end

section
namespace Go.Proofs.YtkfnedhllfdghaaGreatDoor
set_option maxRecDepth 20000
open Go.RowKit Go.Shelf

namespace Pg
def allT : List In → List UInt8 → List UInt8
  | [], acc => acc
  | x :: r, acc => allT r (acc ++ (insT x ++ ⟨#[10]⟩).data.toList)
def fuelT (fuel : Int) : ByteArray := ((⟨#[102, 117, 101, 108, 32]⟩ : ByteArray) ++ ⟨(Lib.itoa fuel).toArray⟩) ++ ⟨#[10]⟩
def printT (fuel : Int) (xs : List In) : List UInt8 := allT xs (fuelT fuel).data.toList
def printS (fuel : Int) (xs : List In) : ByteArray := if (checkE fuel xs).1 = 0 then ⟨(printT fuel xs).toArray⟩ else ⟨#[]⟩
theorem goT_len (x : In) (hx : x.k < 18446744073709551616) : ∀ (l : List UInt8) (acc : ByteArray), (goT x l acc).size ≤ acc.size + 102 * l.length
  | [], acc => by simp [goT]
  | c :: r, acc => by
    unfold goT
    have h1 := goT_len x hx r (acc ++ ((⟨#[32]⟩ : ByteArray) ++ fieldT c.toNat (get x c.toNat)))
    have h2 := fieldT_len c.toNat _ (get_lt x hx c.toNat)
    rw [ByteArray.size_append, ByteArray.size_append] at h1
    have h3 : (⟨#[32]⟩ : ByteArray).size = 1 := rfl
    simp only [List.length_cons]
    omega
theorem insT_len (x : In) (hx : x.k < 18446744073709551616) : (insT x).size ≤ 311 := by
  have h1 := goT_len x hx (shape x.op).1.flds.data.toList (shape x.op).1.word
  have h2 := (shape_ok x.op).1
  have h3 := (shape_ok x.op).2.2
  have h4 : (shape x.op).1.flds.data.toList.length = (shape x.op).1.flds.size := by rw [Array.length_toList]; rfl
  unfold insT
  omega
end Pg
theorem allT_drop (xs : List In) (k : Nat) (h : k < xs.length) (acc : List UInt8) : Pg.allT (xs.drop k) acc = Pg.allT (xs.drop (k + 1)) (acc ++ (Pg.insT xs[k]! ++ ⟨#[10]⟩).data.toList) := by
  rw [List.drop_eq_getElem_cons h, getElem!_pos xs k h]
  rfl
end Go.Proofs.YtkfnedhllfdghaaGreatDoor
end

section
namespace Go.Proofs.YtkfnedhllfdghaaGreatDoor
set_option maxRecDepth 20000
open Go.RowKit Go.Shelf

namespace Pg
/-- a reader's place and fault behind a call -/
def numS (b : ByteArray) (most : Nat) (s : Nat × Nat) : Nat × (Nat × Nat) := if s.2 ≠ 0 then (0, s) else if numK b s.1 most 21 = 0 then (numV b s.1, (numQ b s.1, 0)) else (0, (s.1, numK b s.1 most 21))
def bitsS (b : ByteArray) (s : Nat × Nat) : Nat × (Nat × Nat) := if s.2 ≠ 0 then (0, s) else if bitsK b s.1 = 0 then (bitsV b s.1, (s.1 + 8, 0)) else (0, (s.1, bitsK b s.1))
def listS (b : ByteArray) (most : Nat) (s : Nat × Nat) : Nat × (Nat × Nat) := if s.2 ≠ 0 then (0, s) else if numK b s.1 most 23 = 0 then (numV b s.1, (numQ b s.1, 0)) else (0, (s.1, numK b s.1 most 23))
def setF (x : In) (l : Nat) (v : Nat) : In := if l = 65 then { x with a := v } else if l = 66 then { x with b := v } else if l = 67 then { x with c := v } else if l = 78 then { x with n := v } else { x with k := v }
def fldS (b : ByteArray) (x : In) (l : Nat) (s : Nat × Nat) : In × (Nat × Nat) := if l = 75 then ({ x with k := (bitsS b s).1 }, (bitsS b s).2) else (setF x l (numS b 64 s).1, (numS b 64 s).2)
def fldsS (b : ByteArray) : List UInt8 → In × (Nat × Nat) → In × (Nat × Nat)
  | [], r => r
  | l :: t, r => fldsS b t (fldS b r.1 l.toNat r.2)
def insS (b : ByteArray) (s : Nat × Nat) : In × (Nat × Nat) := fldsS b (shape (numS b 64 s).1).1.flds.data.toList (⟨(numS b 64 s).1, 0, 0, 0, 0, 0⟩, (numS b 64 s).2)
end Pg
theorem numK_23 {b : ByteArray} {p most : Nat} (h : numK b p most 21 = 0) : numK b p most 23 = 0 := by
  unfold numK at *
  split at h
  · rename_i h1; rw [if_pos h1]; exact h
  · rename_i h1
    rw [if_neg h1]
    split at h
    · cases h
    · rename_i h2; rw [if_neg h2]
theorem numS_le (b : ByteArray) (most : Nat) (s : Nat × Nat) (hp : s.1 ≤ b.size) : (Pg.numS b most s).1 ≤ most ∧ (Pg.numS b most s).2.1 ≤ b.size := by
  unfold Pg.numS
  split
  · exact ⟨Nat.zero_le _, hp⟩
  split
  · rename_i h
    obtain ⟨_, h1, h2, h3⟩ := num_parts b s.1 most hp (numK_23 h)
    exact ⟨h1, h3⟩
  · exact ⟨Nat.zero_le _, hp⟩
theorem listS_le (b : ByteArray) (most : Nat) (s : Nat × Nat) (hp : s.1 ≤ b.size) : (Pg.listS b most s).1 ≤ most ∧ (Pg.listS b most s).2.1 ≤ b.size := by
  unfold Pg.listS
  split
  · exact ⟨Nat.zero_le _, hp⟩
  split
  · rename_i h
    obtain ⟨_, h1, h2, h3⟩ := num_parts b s.1 most hp h
    exact ⟨h1, h3⟩
  · exact ⟨Nat.zero_le _, hp⟩
theorem bitsS_le (b : ByteArray) (s : Nat × Nat) (hp : s.1 ≤ b.size) : (Pg.bitsS b s).1 < 18446744073709551616 ∧ (Pg.bitsS b s).2.1 ≤ b.size := by
  unfold Pg.bitsS
  split
  · exact ⟨show (0 : Nat) < 18446744073709551616 by decide, hp⟩
  split
  · rename_i h
    unfold bitsK at h
    split at h
    · cases h
    refine ⟨?_, by show s.1 + 8 ≤ _; omega⟩
    have h8 := Pk.fold8_lt (rest b s.1) 8
    by_cases hl : 8 ≤ (rest b s.1).length
    · have := h8 hl
      unfold bitsV
      show _ < _
      calc _ < 256 ^ 8 := this
        _ = _ := by decide
    · exfalso
      have : (rest b s.1).length = b.size - s.1 := by unfold rest; rw [List.length_drop, Array.length_toList]; rfl
      omega
  · exact ⟨show (0 : Nat) < 18446744073709551616 by decide, hp⟩
theorem rnum_st {w : World} {B : Nat} {b : ByteArray} {s : Nat × Nat} {most : Nat} (h : Rd w B b (s.1 : Int) (s.2 : Int)) (hp : s.1 ≤ b.size) (hb : b.size ≤ 140737488351232) :
    Calls Tryz.prog 100 #[.pointer (some ⟨B, 0, none⟩), .int .u64 (most : Int)] w fun e w' => e = .returned (.int .u64 ((Pg.numS b most s).1 : Int)) ∧ Rd w' B b ((Pg.numS b most s).2.1 : Int) ((Pg.numS b most s).2.2 : Int) ∧ w.grownBy w' (some B) := by
  obtain ⟨p, f⟩ := s
  by_cases hf : f = 0
  · subst hf
    refine (rnum_any (most := most) h hp hb).mono ?_
    intro e w' hF
    unfold Pg.numS
    rw [if_neg (by simp)]
    by_cases hk : numK b p most 21 = 0
    · rw [if_pos hk]; obtain ⟨h1, h2⟩ := hF.ok hk; exact ⟨h1, h2, hF.grown⟩
    · rw [if_neg hk]; obtain ⟨h1, h2⟩ := hF.no hk; exact ⟨h1, h2, hF.grown⟩
  · refine (rnum_dead (most := most) h (by show (f : Int) ≠ 0; omega)).mono ?_
    rintro e w' ⟨h1, h2⟩
    unfold Pg.numS
    rw [if_pos hf]
    exact ⟨h1, h.below h2 h.lt, grown_below h2 _⟩
theorem rlist_st {w : World} {B : Nat} {b : ByteArray} {s : Nat × Nat} {most : Nat} (hm : (most : Int) ≤ 9223372036854775807) (h : Rd w B b (s.1 : Int) (s.2 : Int)) (hp : s.1 ≤ b.size) (hb : b.size ≤ 140737488351232) :
    Calls Tryz.prog 219 #[.pointer (some ⟨B, 0, none⟩), .int .i64 (most : Int)] w fun e w' => e = .returned (.int .i64 ((Pg.listS b most s).1 : Int)) ∧ Rd w' B b ((Pg.listS b most s).2.1 : Int) ((Pg.listS b most s).2.2 : Int) ∧ w.grownBy w' (some B) := by
  obtain ⟨p, f⟩ := s
  by_cases hf : f = 0
  · subst hf
    refine (rlist_any (most := most) hm h hp hb).mono ?_
    intro e w' hF
    unfold Pg.listS
    rw [if_neg (by simp)]
    by_cases hk : numK b p most 23 = 0
    · rw [if_pos hk]; obtain ⟨h1, h2⟩ := hF.ok hk; exact ⟨h1, h2, hF.grown⟩
    · rw [if_neg hk]; obtain ⟨h1, h2⟩ := hF.no hk; exact ⟨h1, h2, hF.grown⟩
  · refine (rlist_dead (most := most) h (by show (f : Int) ≠ 0; omega)).mono ?_
    rintro e w' ⟨h1, h2⟩
    unfold Pg.listS
    rw [if_pos hf]
    exact ⟨h1, h.below h2 h.lt, grown_below h2 _⟩
theorem rbits_st {w : World} {B : Nat} {b : ByteArray} {s : Nat × Nat} (h : Rd w B b (s.1 : Int) (s.2 : Int)) (hp : s.1 ≤ b.size) (hb : b.size ≤ 140737488351232) :
    Calls Tryz.prog 209 #[.pointer (some ⟨B, 0, none⟩)] w fun e w' => e = .returned (.int .u64 ((Pg.bitsS b s).1 : Int)) ∧ Rd w' B b ((Pg.bitsS b s).2.1 : Int) ((Pg.bitsS b s).2.2 : Int) ∧ w.grownBy w' (some B) := by
  obtain ⟨p, f⟩ := s
  by_cases hf : f = 0
  · subst hf
    refine (rbits_any h hp hb).mono ?_
    intro e w' hF
    unfold Pg.bitsS
    rw [if_neg (by simp)]
    by_cases hk : bitsK b p = 0
    · rw [if_pos hk]; obtain ⟨h1, h2⟩ := hF.ok hk; exact ⟨h1, h2, hF.grown⟩
    · rw [if_neg hk]; obtain ⟨h1, h2⟩ := hF.no hk; exact ⟨h1, h2, hF.grown⟩
  · refine (rbits_dead h (by show (f : Int) ≠ 0; omega)).mono ?_
    rintro e w' ⟨h1, h2⟩
    unfold Pg.bitsS
    rw [if_pos hf]
    exact ⟨h1, h.below h2 h.lt, grown_below h2 _⟩

/-- an instruction's block -/
def Ib (w : World) (B : Nat) (x : In) : Prop := w.heap[B]? = some (.cells #[.int .i64 x.op, .int .i64 x.a, .int .i64 x.b, .int .i64 x.c, .int .i64 x.n, .int .u64 (x.k : Int)] 189 (0, 0))
theorem Ib.lt {w : World} {B : Nat} {x : In} (h : Ib w B x) : B < w.heap.size := lt_of_block h
theorem Ib.grown {w w' : World} {B : Nat} {x : In} (h : Ib w B x) {r : Option Nat} (g : w.grownBy w' r) (hn : some B ≠ r) : Ib w' B x := (g.block B h.lt hn).trans h
theorem ib_set {w : World} {B : Nat} {a b c d e f : Value} {T : TypeId} (h : w.heap[B]? = some (.cells #[a, b, c, d, e, f] T (0, 0))) (i : Nat) (u : Value) : (w.setCell ⟨B, i, none⟩ u).heap[B]? = some (.cells (#[a, b, c, d, e, f].setIfInBounds i u) T (0, 0)) := by
  unfold World.setCell
  simp [Array.getElem?_modify, h]
set_option maxHeartbeats 1000000 in
theorem set_any (x : In) (l v : Nat) (hv : l = 75 ∨ v < 4294967296) (B : Nat) (w : World) (h : Ib w B x) :
    Calls Tryz.prog 260 #[.pointer (some ⟨B, 0, none⟩), .int .i32 (l : Int), .int .u64 (v : Int)] w fun e w' => e = .returned (.tuple #[]) ∧ Ib w' B (Pg.setF x l v) ∧ w.grownBy w' (some B) := by
  obtain ⟨⟨x0, x1, x2, x3, x4, x5⟩, xz⟩ := six_of h
  have H := hide h
  clear h
  unfold Pg.setF
  by_cases h0 : l = 65
  · subst h0
    have hv : v < 4294967296 := by omega
    go_enter Tryz.func260, Tryz.ntmps260
    go_wp2
    go_end0
    exact ⟨rfl, ib_set H.out 1 _, grown_set w B 1 _⟩
  have b0 : ((l : Int) == 65) = false := by simp; omega
  rw [if_neg h0]
  by_cases h1 : l = 66
  · subst h1
    have hv : v < 4294967296 := by omega
    go_enter Tryz.func260, Tryz.ntmps260
    go_wp2
    go_end0
    exact ⟨rfl, ib_set H.out 2 _, grown_set w B 2 _⟩
  have b1 : ((l : Int) == 66) = false := by simp; omega
  rw [if_neg h1]
  by_cases h2 : l = 67
  · subst h2
    have hv : v < 4294967296 := by omega
    go_enter Tryz.func260, Tryz.ntmps260
    go_wp2
    go_end0
    exact ⟨rfl, ib_set H.out 3 _, grown_set w B 3 _⟩
  have b2 : ((l : Int) == 67) = false := by simp; omega
  rw [if_neg h2]
  by_cases h3 : l = 78
  · subst h3
    have hv : v < 4294967296 := by omega
    go_enter Tryz.func260, Tryz.ntmps260
    go_wp2
    go_end0
    exact ⟨rfl, ib_set H.out 4 _, grown_set w B 4 _⟩
  have b3 : ((l : Int) == 78) = false := by simp; omega
  rw [if_neg h3]
  clear hv
  go_enter Tryz.func260, Tryz.ntmps260
  go_wp2
  go_end0
  exact ⟨rfl, ib_set H.out 5 _, grown_set w B 5 _⟩
theorem results_one {fn : Func} {p : Tmp} {ty : TypeId} (h : fn.results = #[.cell p ty]) (tmps : Array Value) (P : Program) (w : World) :
    (results fn tmps).run P w = ((asAddr (tmps.getD p undef)).run P w).andThen fun a w₁ => (loadVar ty a).run P w₁ := by
  simp only [results, h]
  simp [Sem.run_bind, Result.andThen]
/-- behind a store in a block of one's own -/
theorem grown_own {a b c : World} {B C : Nat} (h : a.grownBy b (some B)) (k : b.grownBy c (some C)) (hC : a.heap.size ≤ C) : a.grownBy c (some B) :=
  ⟨k.os.trans h.os, k.tape.trans h.tape, k.output.trans h.output, Nat.le_trans h.size k.size, fun i hi hn => (k.block i (Nat.lt_of_lt_of_le hi h.size) (fun e => by injection e with e; omega)).trans (h.block i hi hn)⟩
theorem grown_iterAt (w : World) (IT : Nat) (s : ByteArray) (q : Nat) : w.grownBy (w.iterAt IT s q) (some IT) :=
  ⟨rfl, rfl, rfl, by rw [Lib.iterAt_size]; exact Nat.le_refl _, fun i _ hn => Lib.iterAt_other w IT i s q (fun e => hn (by rw [e]))⟩
theorem grown_one (w : World) (o : Obj) (r : Option Nat) : w.grownBy (w.alloc o) r := grown_below (below_one w o) r
set_option maxRecDepth 10000 in
set_option maxHeartbeats 1000000 in
theorem readIns_any {w : World} {B : Nat} {b : ByteArray} {s : Nat × Nat} (h : Rd w B b (s.1 : Int) (s.2 : Int)) (hp : s.1 ≤ b.size) (hb : b.size ≤ 140737488351232) :
    Calls Tryz.prog 220 #[.pointer (some ⟨B, 0, none⟩)] w fun e w' => e = .returned (.agg #[.int .i64 (Pg.insS b s).1.op, .int .i64 (Pg.insS b s).1.a, .int .i64 (Pg.insS b s).1.b, .int .i64 (Pg.insS b s).1.c, .int .i64 (Pg.insS b s).1.n, .int .u64 ((Pg.insS b s).1.k : Int)]) ∧ Rd w' B b ((Pg.insS b s).2.1 : Int) ((Pg.insS b s).2.2 : Int) ∧ w.grownBy w' (some B) := by
  have HN := hide (fun w1 (h1 : Rd w1 B b (s.1 : Int) (s.2 : Int)) => rnum_st (most := 64) h1 hp hb)
  have hle := numS_le b 64 s hp
  obtain ⟨R, hRes⟩ : ∃ R, Pg.insS b s = R := ⟨_, rfl⟩
  rw [hRes]
  unfold Pg.insS at hRes
  have HRes := hide hRes
  clear hRes
  have hBl := h.lt
  have HR := hide h
  clear h
  generalize Pg.numS b 64 s = ns at *
  obtain ⟨v, p1, f1⟩ := ns
  obtain ⟨hv, hp1⟩ := hle
  have hv : v ≤ 64 := hv
  go_enter Tryz.func220, Tryz.ntmps220
  go_wp2_with fail
  refine (HN.out _ (HR.out.alloc _)).mono ?_
  rintro e w1 ⟨rfl, hR1, hg1⟩
  have hI1 : Ib w1 w.heap.size ⟨0, 0, 0, 0, 0, 0⟩ := (hg1.block w.heap.size (by simp) (by simp; omega)).trans (heap_alloc_new w _)
  obtain ⟨⟨x0, x1, x2, x3, x4, x5⟩, xz⟩ := six_of hI1
  have HI1 := hide hI1
  have HR1 := hide hR1
  have HG1 : Hid (w.grownBy w1 (some B)) := grown_trans (grown_one w _ _) hg1
  have hl1 : w.heap.size < w1.heap.size := hI1.lt
  clear hI1 hR1 hg1 HN HR
  have HS := hide (shapeOf_any (v : Int))
  have HO := hide (Pg.shape_ok (v : Int))
  have HRes2 : Hid (Pg.fldsS b (Pg.shape (v : Int)).1.flds.data.toList (⟨(v : Int), 0, 0, 0, 0, 0⟩, (p1, f1)) = R) := HRes.out
  clear HRes
  generalize Pg.shape (v : Int) = sh at *
  obtain ⟨⟨so, sw, sf⟩, sb⟩ := sh
  go_wp2_with fail
  refine (HS.out _).mono ?_
  rintro e w2 ⟨rfl, hb2⟩
  have hI2 : Ib w2 w1.heap.size ⟨(v : Int), 0, 0, 0, 0, 0⟩ := (hb2.block w1.heap.size (by simp)).trans (heap_alloc_new w1 _)
  have hg2 : w1.grownBy w2 (some B) := grown_trans (grown_one w1 _ _) (grown_below hb2 _)
  have hZ2 : Ib w2 w.heap.size ⟨0, 0, 0, 0, 0, 0⟩ := HI1.out.grown hg2 (by simp; omega)
  have hR2 : Rd w2 B b (p1 : Int) (f1 : Int) := HR1.out.below ((below_one w1 _).trans (hb2.mono (by simp))) HR1.out.lt
  have hl2 : w1.heap.size < w2.heap.size := hI2.lt
  have HI3 : Hid (Ib ((w2.alloc (.cells #[.int .i64 so, .string sw, .string sf] 284)).iter sf 0) w1.heap.size ⟨(v : Int), 0, 0, 0, 0, 0⟩) := (hI2.grown (grown_one w2 (.cells #[.int .i64 so, .string sw, .string sf] 284) none) (by simp)).grown (grown_one _ (.stringIter sf 0) none) (by simp)
  have HZ3 : Hid (Ib ((w2.alloc (.cells #[.int .i64 so, .string sw, .string sf] 284)).iter sf 0) w.heap.size ⟨0, 0, 0, 0, 0, 0⟩) := (hZ2.grown (grown_one w2 (.cells #[.int .i64 so, .string sw, .string sf] 284) none) (by simp)).grown (grown_one _ (.stringIter sf 0) none) (by simp)
  have HR3 : Hid (Rd ((w2.alloc (.cells #[.int .i64 so, .string sw, .string sf] 284)).iter sf 0) B b (p1 : Int) (f1 : Int)) := (hR2.alloc (.cells #[.int .i64 so, .string sw, .string sf] 284)).alloc (.stringIter sf 0)
  have HG3 : Hid (w.grownBy ((w2.alloc (.cells #[.int .i64 so, .string sw, .string sf] 284)).iter sf 0) (some B)) := grown_trans HG1.out (grown_trans hg2 (grown_trans (grown_one w2 (.cells #[.int .i64 so, .string sw, .string sf] 284) _) (grown_one _ (.stringIter sf 0) _)))
  have HT3 : Hid (((w2.alloc (.cells #[.int .i64 so, .string sw, .string sf] 284)).iter sf 0).heap[w2.heap.size + 1]? = some (.stringIter sf 0)) := by
    have := World.iter_heap (w2.alloc (.cells #[.int .i64 so, .string sw, .string sf] 284)) sf 0
    rw [World.size_alloc] at this
    exact this
  clear hb2 hI2 hg2 hZ2 hR2 HI1 HR1 HS x0 x1 x2 x3 x4 x5 xz
  go_wp2_with fail
  generalize (w2.alloc (.cells #[.int .i64 so, .string sw, .string sf] 284)).iter sf 0 = W0 at *
  go_loopw [] (fun wr => ∃ (k : Nat) (x : In) (s : Nat × Nat), k ≤ sf.size ∧ s.1 ≤ b.size ∧ Hid (Rd wr B b (s.1 : Int) (s.2 : Int)) ∧ Hid (Ib wr w1.heap.size x) ∧ Hid (Ib wr w.heap.size ⟨0, 0, 0, 0, 0, 0⟩) ∧ Hid (wr.heap[w2.heap.size + 1]? = some (.stringIter sf k)) ∧ Hid (w.grownBy wr (some B)) ∧ Hid (Pg.fldsS b sf.data.toList (⟨(v : Int), 0, 0, 0, 0, 0⟩, (p1, f1)) = Pg.fldsS b (sf.data.toList.drop k) (x, s))) (fun wr => sf.size - wr.iterPos (w2.heap.size + 1))
  case atStart => exact ⟨0, _, (p1, f1), Nat.zero_le _, hp1, HR3, HI3, HZ3, HT3, HG3, rfl⟩
  case round =>
    obtain ⟨k, x, s, hk, hps, HR, HI, HZ, HT, HG, HE⟩ := hrel
    clear HR3 HI3 HZ3 HT3 HG3
    by_cases hlt : k < sf.size
    · have hla : (sf[k]'hlt).toNat < 128 := HO.out.2.1 _ (at_mem sf k hlt)
      have hnx : ∀ ty, (Instr.next (.pointer (some ⟨w2.heap.size + 1, 0, none⟩)) true ty).run Tryz.prog wr = _ := fun ty => Lib.run_next_ascii_at wr (w2.heap.size + 1) sf k ty HT.out hlt hla
      have HE2 : Hid (Pg.fldsS b sf.data.toList (⟨(v : Int), 0, 0, 0, 0, 0⟩, (p1, f1)) = Pg.fldsS b (sf.data.toList.drop (k + 1)) (Pg.fldS b x (sf[k]'hlt).toNat s)) := by
        refine HE.out.trans ?_
        rw [at_toList sf k hlt]
        rfl
      generalize (sf[k]'hlt).toNat = l at *
      have HM : Hid (wr.iterPos (w2.heap.size + 1) = k) := iterPos_of HT.out
      have hgi := grown_iterAt wr (w2.heap.size + 1) sf (k + 1)
      have HR2 := hide (HR.out.grown hgi (by simp; omega))
      have HI2 := hide (HI.out.grown hgi (by simp; omega))
      have HZ2 := hide (HZ.out.grown hgi (by simp; omega))
      have HT2 := hide (Lib.iterAt_heap wr (w2.heap.size + 1) sf k (k + 1) HT.out)
      have HG2 := hide (grown_own HG.out hgi (by omega))
      clear HR HI HZ HT HG HE hgi
      generalize wr.iterAt (w2.heap.size + 1) sf (k + 1) = wn at *
      have hps2 := numS_le b 64 s hps
      have hps3 := bitsS_le b s hps
      unfold Pg.fldS at HE2
      by_cases h75 : l = 75
      · subst h75
        rw [if_pos rfl] at HE2
        have HBt := hide (rbits_st HR2.out hps hb)
        generalize Pg.bitsS b s = bs at *
        obtain ⟨bv, bst⟩ := bs
        go_wp2_with fail
        refine HBt.out.mono ?_
        rintro e w4 ⟨rfl, hR4, hg4⟩
        have hI4 := HI2.out.grown hg4 (by simp; omega)
        obtain ⟨⟨x0, x1, x2, x3, x4, x5⟩, xz⟩ := six_of hI4
        have hs5 := grown_set w4 w1.heap.size 5 (.int .u64 (bv : Int))
        have HI5 : Hid (Ib (w4.setCell ⟨w1.heap.size, 5, none⟩ (.int .u64 (bv : Int))) w1.heap.size { x with k := bv }) := ib_set hI4 5 (.int .u64 (bv : Int))
        have HR5 : Hid (Rd (w4.setCell ⟨w1.heap.size, 5, none⟩ (.int .u64 (bv : Int))) B b (bst.1 : Int) (bst.2 : Int)) := hR4.grown hs5 (by simp; omega)
        have HZ5 := hide ((HZ2.out.grown hg4 (by simp; omega)).grown hs5 (by simp; omega))
        have HT5 : Hid ((w4.setCell ⟨w1.heap.size, 5, none⟩ (.int .u64 (bv : Int))).heap[w2.heap.size + 1]? = some (.stringIter sf (k + 1))) := (hs5.block _ (Nat.lt_of_lt_of_le (lt_of_block HT2.out) hg4.size) (by simp; omega)).trans ((hg4.block _ (lt_of_block HT2.out) (by simp; omega)).trans HT2.out)
        have HG5 := hide (grown_own (grown_trans HG2.out hg4) hs5 (by omega))
        clear hR4 hg4 hI4 hs5 HR2 HI2 HZ2 HT2 HG2 HBt
        go_wp2
        go_roundw
        case rel => exact ⟨k + 1, _, bst, by omega, hps3.2, HR5, HI5, HZ5, HT5, HG5, HE2⟩
        case measure => rw [HM.out, iterPos_of HT5.out]; omega
      · have h75' : ((l : Int) == 75) = false := by simp; omega
        rw [if_neg h75] at HE2
        have HNt := hide (rnum_st (most := 64) HR2.out hps hb)
        generalize Pg.numS b 64 s = ns at *
        obtain ⟨nv, nst⟩ := ns
        go_wp2_with fail
        refine HNt.out.mono ?_
        rintro e w4 ⟨rfl, hR4, hg4⟩
        have HR4 := hide hR4
        have HI4 := hide (HI2.out.grown hg4 (by simp; omega))
        have HZ4 := hide (HZ2.out.grown hg4 (by simp; omega))
        have HT4 : Hid (w4.heap[w2.heap.size + 1]? = some (.stringIter sf (k + 1))) := (hg4.block _ (lt_of_block HT2.out) (by simp; omega)).trans HT2.out
        have HG4 := hide (grown_trans HG2.out hg4)
        clear hR4 hg4 HR2 HI2 HZ2 HT2 HG2 HNt
        go_wp2_with fail
        refine (set_any x l nv (.inr (by have := hps2.1; omega)) w1.heap.size w4 HI4.out).mono ?_
        rintro e w5 ⟨rfl, hI5, hg5⟩
        have HI5 := hide hI5
        have HR5 := hide (HR4.out.grown hg5 (by simp; omega))
        have HZ5 := hide (HZ4.out.grown hg5 (by simp; omega))
        have HT5 : Hid (w5.heap[w2.heap.size + 1]? = some (.stringIter sf (k + 1))) := (hg5.block _ (lt_of_block HT4.out) (by simp; omega)).trans HT4.out
        have HG5 := hide (grown_own HG4.out hg5 (by omega))
        clear hI5 hg5 HR4 HI4 HZ4 HT4 HG4
        go_wp2
        go_roundw
        case rel => exact ⟨k + 1, _, nst, by omega, hps2.2, HR5, HI5, HZ5, HT5, HG5, HE2⟩
        case measure => rw [HM.out, iterPos_of HT5.out]; omega
    · obtain rfl : k = sf.size := by omega
      have hnx : ∀ ty, (Instr.next (.pointer (some ⟨w2.heap.size + 1, 0, none⟩)) true ty).run Tryz.prog wr = _ := fun ty => Lib.run_next_end_at wr (w2.heap.size + 1) sf sf.size ty HT.out (Nat.lt_irrefl _)
      have HE2 : Hid (Pg.fldsS b sf.data.toList (⟨(v : Int), 0, 0, 0, 0, 0⟩, (p1, f1)) = (x, s)) := by refine HE.out.trans ?_; rw [fin_toList]; rfl
      obtain ⟨⟨x0, x1, x2, x3, x4, x5⟩, xz⟩ := six_of HI.out
      obtain ⟨⟨z0, z1, z2, z3, z4, z5⟩, zz⟩ := six_of HZ.out
      have hne : w1.heap.size ≠ w.heap.size := by omega
      clear HE
      have HER : Hid (R = (x, s)) := HRes2.out.symm.trans HE2.out
      clear HRes2 HE2
      go_wp2
      refine bodyPost_ret (by rw [results_one rfl]; go_simp; rfl) rfl ?_
      have hs : wr.grownBy ((((((wr.setCell ⟨w.heap.size, 0, none⟩ (.int .i64 x.op)).setCell ⟨w.heap.size, 1, none⟩ (.int .i64 x.a)).setCell ⟨w.heap.size, 2, none⟩ (.int .i64 x.b)).setCell ⟨w.heap.size, 3, none⟩ (.int .i64 x.c)).setCell ⟨w.heap.size, 4, none⟩ (.int .i64 x.n)).setCell ⟨w.heap.size, 5, none⟩ (.int .u64 (x.k : Int))) (some w.heap.size) :=
        grown_trans (grown_set _ _ _ _) (grown_trans (grown_set _ _ _ _) (grown_trans (grown_set _ _ _ _) (grown_trans (grown_set _ _ _ _) (grown_trans (grown_set _ _ _ _) (grown_set _ _ _ _)))))
      rw [HER.out]
      exact ⟨rfl, HR.out.grown hs (by simp; omega), grown_own HG.out hs (Nat.le_refl _)⟩
end Go.Proofs.YtkfnedhllfdghaaGreatDoor
end
