import Derived.Test.YtoiibpkfpeceeaaGreatDoorMgAH
import Derived.Test.YtoiibpkfpeceeaaGreatDoorMgAO
import Derived.Test.YtoiibpkfpeceeaaGreatDoorMgAP

section
namespace Go.Proofs.YtoiibpkfpeceeaaGreatDoor
open Go.RowKit Go.Shelf

theorem tab64_below' {a b : World} (h : Tab64 a) (k : Below a.heap.size a b) : Tab64 b := fun j hj => (k.cell (p := ⟨7, j, none⟩) (World.block_lt_of_cell? _ _ (h j hj))).trans (h j hj)
/-- the two tables of the library -/
structure Tabs (w : World) : Prop where
  t64 : Tab64 w
  t10 : Tab10 w
theorem Tabs.below {a b : World} (h : Tabs a) {n : Nat} (k : Below n a b) (hn : a.heap.size ≤ n) : Tabs b := ⟨tab64_below' h.t64 (k.mono hn), tab10_below h.t10 (k.mono hn)⟩
namespace Pg
def fieldT (l v : Nat) : ByteArray := if l = 75 then textB v else if l = 78 then ⟨(Lib.decDigits v).toArray⟩ else (⟨#[114]⟩ : ByteArray) ++ ⟨(Lib.decDigits v).toArray⟩
def goT (x : In) : List UInt8 → ByteArray → ByteArray
  | [], acc => acc
  | l :: r, acc => goT x r (acc ++ ((⟨#[32]⟩ : ByteArray) ++ fieldT l.toNat (get x l.toNat)))
def insT (x : In) : ByteArray := goT x (shape x.op).1.flds.data.toList (shape x.op).1.word
def fieldB (x : In) (l : Nat) : ByteArray := if l = 75 then ⟨(Pk.big8 x.k).toArray⟩ else ⟨(Pk.enc (get x l)).toArray⟩
def goB (x : In) : List UInt8 → ByteArray → ByteArray
  | [], acc => acc
  | l :: r, acc => goB x r (acc ++ fieldB x l.toNat)
def insB (x : In) : ByteArray := goB x (shape x.op).1.flds.data.toList ⟨(Pk.enc (un x.op)).toArray⟩
def okF (s : Sh) : Bool := decide (s.flds.size ≤ 3) && s.flds.data.toList.all (fun c => decide (c.toNat < 128)) && decide (s.word.size ≤ 5)
theorem tbl_ok : tbl.all okF = true := by decide
theorem find_ok (p : Sh → Bool) : okF (find p).1 = true := by
  unfold find
  cases h : tbl.findIdx? p with
  | none => rfl
  | some k =>
    have hk : k < tbl.length := (List.findIdx?_eq_some_iff_getElem.1 h).1
    show okF tbl[k]! = true
    rw [getElem!_pos tbl k hk]
    exact List.all_eq_true.1 tbl_ok _ (List.getElem_mem hk)
theorem shape_ok (op : Int) : (shape op).1.flds.size ≤ 3 ∧ (∀ c ∈ (shape op).1.flds.data.toList, c.toNat < 128) ∧ (shape op).1.word.size ≤ 5 := by
  have h := find_ok (fun s => s.op == op)
  unfold okF at h
  simp only [Bool.and_eq_true, decide_eq_true_eq, List.all_eq_true] at h
  exact ⟨h.1.1, h.1.2, h.2⟩
end Pg
theorem textB_len (v : Nat) (hv : v < 18446744073709551616) : (textB v).size ≤ 101 := by
  have hc : Gn.canonW v < 18446744073709551616 := by unfold Gn.canonW; split <;> omega
  unfold textB
  split
  · exact Nat.le_succ_of_le (amt_size _)
  · rw [ByteArray.size_append]
    have := amt_size (Gn.canonW v % 9223372036854775808)
    show 1 + _ ≤ 101
    omega
theorem fieldT_len (l v : Nat) (hv : v < 18446744073709551616) : (Pg.fieldT l v).size ≤ 101 := by
  have := nd_le v hv
  have := textB_len v hv
  unfold Pg.fieldT
  repeat' split
  · assumption
  · show (Lib.decDigits v).toArray.size ≤ 101; simp; omega
  · rw [ByteArray.size_append]; show 1 + (Lib.decDigits v).toArray.size ≤ 101; simp; omega
theorem fieldB_len (x : In) (hx : x.k < 18446744073709551616) (l : Nat) : (Pg.fieldB x l).size ≤ 10 := by
  unfold Pg.fieldB
  split
  · show 8 ≤ 10; decide
  · have := Pk.enc_ten (get_lt x hx l); show (Pk.enc _).toArray.size ≤ 10; simpa using this
theorem at_toList (s : ByteArray) (k : Nat) (h : k < s.size) : s.data.toList.drop k = s[k] :: s.data.toList.drop (k + 1) := by
  have h' : k < s.data.toList.length := by rw [Array.length_toList]; exact h
  rw [List.drop_eq_getElem_cons h']
  rfl
theorem at_mem (s : ByteArray) (k : Nat) (h : k < s.size) : s[k] ∈ s.data.toList := by
  have h' : k < s.data.toList.length := by rw [Array.length_toList]; exact h
  exact List.getElem_mem h'
theorem fin_toList (s : ByteArray) : s.data.toList.drop s.size = [] := by
  apply List.drop_eq_nil_of_le
  rw [Array.length_toList]
  exact Nat.le_refl _
end Go.Proofs.YtoiibpkfpeceeaaGreatDoor
end

section
namespace Go.Proofs.YtoiibpkfpeceeaaGreatDoor
open Go.RowKit Go.Shelf

theorem ownsRowF_below {w w' : World} {base e size n m : Nat} {v : Value} {xs : List Value} (h : w.ownsRowF base e size v n xs) (hb : Below m w w') (hm : w.heap.size ≤ m) : w'.ownsRowF base e size v n xs := by
  refine ⟨h.1, ?_⟩
  rcases h.2 with hn | ⟨g, cap, cur, fz, hv, hbg, hg, rest⟩
  · exact .inl hn
  · exact .inr ⟨g, cap, cur, fz, hv, hbg, (hb.block g (Nat.lt_of_lt_of_le (lt_of_block hg) hm)).trans hg, rest⟩
theorem builder_below {T e B b m : Nat} {bs : List Value} {w w' : World} (h : Lib.IsBuilderF T e B b bs w) (hb : Below m w w') (hm : w.heap.size ≤ m) : Lib.IsBuilderF T e B b bs w' := by
  rcases h with ⟨hB, v, hv, hown, hne⟩ | ⟨hB, v, hv, hown, hne⟩
  · exact .inl ⟨hB, v, (hb.block b (Nat.lt_of_lt_of_le (lt_of_block hv) hm)).trans hv, ownsRowF_below hown hb hm, hne⟩
  · exact .inr ⟨hB, v, (hb.block b (Nat.lt_of_lt_of_le (lt_of_block hv) hm)).trans hv, ownsRowF_below hown hb hm, hne⟩
theorem builder_lt {T e B b : Nat} {bs : List Value} {w : World} (h : Lib.IsBuilderF T e B b bs w) : b < w.heap.size := by
  rcases h with ⟨_, v, hv, _⟩ | ⟨_, v, hv, _⟩ <;> exact lt_of_block hv
namespace Pg
def allB : List In → List UInt8 → List UInt8
  | [], acc => acc
  | x :: r, acc => allB r (acc ++ (insB x).data.toList)
def packB (fuel : Int) (xs : List In) : List UInt8 := allB xs (Pk.enc (un fuel) ++ Pk.enc (un xs.length))
def packS (fuel : Int) (xs : List In) : ByteArray := if (checkE fuel xs).1 = 0 then ⟨(packB fuel xs).toArray⟩ else ⟨#[]⟩
theorem goB_len (x : In) (hx : x.k < 18446744073709551616) : ∀ (l : List UInt8) (acc : ByteArray), (goB x l acc).size ≤ acc.size + 10 * l.length
  | [], acc => by simp [goB]
  | c :: r, acc => by
    unfold goB
    have h1 := goB_len x hx r (acc ++ fieldB x c.toNat)
    have h2 := fieldB_len x hx c.toNat
    rw [ByteArray.size_append] at h1
    simp only [List.length_cons]
    omega
theorem insB_len (x : In) (hx : x.k < 18446744073709551616) : (insB x).size ≤ 40 := by
  have h1 := goB_len x hx (shape x.op).1.flds.data.toList ⟨(Pk.enc (un x.op)).toArray⟩
  have h2 := (shape_ok x.op).1
  have h3 := Pk.enc_ten (un_lt x.op)
  have h4 : (shape x.op).1.flds.data.toList.length = (shape x.op).1.flds.size := by rw [Array.length_toList]; rfl
  have h5 : (⟨(Pk.enc (un x.op)).toArray⟩ : ByteArray).size ≤ 10 := by show (Pk.enc _).toArray.size ≤ 10; simpa using h3
  unfold insB
  omega
end Pg
theorem checkE_two (fuel : Int) (xs : List In) (h : (Pg.checkE fuel xs).1 = 0) : 1 ≤ fuel ∧ fuel ≤ 1024 ∧ 1 ≤ xs.length ∧ xs.length ≤ 64 := by
  unfold Pg.checkE at h
  split at h
  · cases h
  split at h
  · cases h
  omega
theorem allB_drop (xs : List In) (k : Nat) (h : k < xs.length) (acc : List UInt8) : Pg.allB (xs.drop k) acc = Pg.allB (xs.drop (k + 1)) (acc ++ (Pg.insB xs[k]!).data.toList) := by
  rw [List.drop_eq_getElem_cons h, getElem!_pos xs k h]
  rfl
theorem app_len {acc : List UInt8} {I : ByteArray} {A k c : Nat} (h1 : I.size ≤ c) (h2 : acc.length ≤ A + k * c) : (acc ++ I.data.toList).length ≤ A + (k + 1) * c := by
  have e : (acc ++ I.data.toList).length = acc.length + I.size := by rw [List.length_append, Array.length_toList]; rfl
  rw [e, Nat.add_mul]; omega
theorem pnum_wrap (u : Int) (w : World) : Calls Tryz.prog 63 #[.int .u64 (IntKind.u64.wrap u)] w fun e w' => e = .returned (.string ⟨(Pk.enc (Pg.un u)).toArray⟩) ∧ Below w.heap.size w w' := by
  rw [un_wrap]; exact pnum_any _ (un_lt u) w
end Go.Proofs.YtoiibpkfpeceeaaGreatDoor
end

section
namespace Go.Proofs.YtoiibpkfpeceeaaGreatDoor
open Go.RowKit Go.Shelf

namespace Pg
def allT : List In → List UInt8 → List UInt8
  | [], acc => acc
  | x :: r, acc => allT r (acc ++ (insT x ++ ⟨#[10]⟩).data.toList)
def fuelT (fuel : Int) : ByteArray := ((⟨#[102, 117, 101, 108, 32]⟩ : ByteArray) ++ ⟨(Lib.itoa fuel).toArray⟩) ++ ⟨#[10]⟩
def printT (fuel : Int) (xs : List In) : List UInt8 := allT xs (fuelT fuel).data.toList
def printS (fuel : Int) (xs : List In) : ByteArray := if (checkE fuel xs).1 = 0 then ⟨(printT fuel xs).toArray⟩ else ⟨#[]⟩
theorem goT_len (x : In) (hx : x.k < 18446744073709551616) : ∀ (l : List UInt8) (acc : ByteArray), (goT x l acc).size ≤ acc.size + 102 * l.length
  | [], acc => by simp [goT]
  | c :: r, acc => by
    unfold goT
    have h1 := goT_len x hx r (acc ++ ((⟨#[32]⟩ : ByteArray) ++ fieldT c.toNat (get x c.toNat)))
    have h2 := fieldT_len c.toNat _ (get_lt x hx c.toNat)
    rw [ByteArray.size_append, ByteArray.size_append] at h1
    have h3 : (⟨#[32]⟩ : ByteArray).size = 1 := rfl
    simp only [List.length_cons]
    omega
theorem insT_len (x : In) (hx : x.k < 18446744073709551616) : (insT x).size ≤ 311 := by
  have h1 := goT_len x hx (shape x.op).1.flds.data.toList (shape x.op).1.word
  have h2 := (shape_ok x.op).1
  have h3 := (shape_ok x.op).2.2
  have h4 : (shape x.op).1.flds.data.toList.length = (shape x.op).1.flds.size := by rw [Array.length_toList]; rfl
  unfold insT
  omega
end Pg
theorem allT_drop (xs : List In) (k : Nat) (h : k < xs.length) (acc : List UInt8) : Pg.allT (xs.drop k) acc = Pg.allT (xs.drop (k + 1)) (acc ++ (Pg.insT xs[k]! ++ ⟨#[10]⟩).data.toList) := by
  rw [List.drop_eq_getElem_cons h, getElem!_pos xs k h]
  rfl
end Go.Proofs.YtoiibpkfpeceeaaGreatDoor
end

section
namespace Go.Proofs.YtoiibpkfpeceeaaGreatDoor
open Go.RowKit Go.Shelf

namespace Pg
/-- a reader's place and fault behind a call -/
def numS (b : ByteArray) (most : Nat) (s : Nat × Nat) : Nat × (Nat × Nat) := if s.2 ≠ 0 then (0, s) else if numK b s.1 most 21 = 0 then (numV b s.1, (numQ b s.1, 0)) else (0, (s.1, numK b s.1 most 21))
def bitsS (b : ByteArray) (s : Nat × Nat) : Nat × (Nat × Nat) := if s.2 ≠ 0 then (0, s) else if bitsK b s.1 = 0 then (bitsV b s.1, (s.1 + 8, 0)) else (0, (s.1, bitsK b s.1))
def listS (b : ByteArray) (most : Nat) (s : Nat × Nat) : Nat × (Nat × Nat) := if s.2 ≠ 0 then (0, s) else if numK b s.1 most 23 = 0 then (numV b s.1, (numQ b s.1, 0)) else (0, (s.1, numK b s.1 most 23))
def setF (x : In) (l : Nat) (v : Nat) : In := if l = 65 then { x with a := v } else if l = 66 then { x with b := v } else if l = 67 then { x with c := v } else if l = 78 then { x with n := v } else { x with k := v }
def fldS (b : ByteArray) (x : In) (l : Nat) (s : Nat × Nat) : In × (Nat × Nat) := if l = 75 then ({ x with k := (bitsS b s).1 }, (bitsS b s).2) else (setF x l (numS b 64 s).1, (numS b 64 s).2)
def fldsS (b : ByteArray) : List UInt8 → In × (Nat × Nat) → In × (Nat × Nat)
  | [], r => r
  | l :: t, r => fldsS b t (fldS b r.1 l.toNat r.2)
def insS (b : ByteArray) (s : Nat × Nat) : In × (Nat × Nat) := fldsS b (shape (numS b 64 s).1).1.flds.data.toList (⟨(numS b 64 s).1, 0, 0, 0, 0, 0⟩, (numS b 64 s).2)
end Pg
theorem numK_23 {b : ByteArray} {p most : Nat} (h : numK b p most 21 = 0) : numK b p most 23 = 0 := by
  unfold numK at *
  split at h
  · rename_i h1; rw [if_pos h1]; exact h
  · rename_i h1
    rw [if_neg h1]
    split at h
    · cases h
    · rename_i h2; rw [if_neg h2]
theorem numS_le (b : ByteArray) (most : Nat) (s : Nat × Nat) (hp : s.1 ≤ b.size) : (Pg.numS b most s).1 ≤ most ∧ (Pg.numS b most s).2.1 ≤ b.size := by
  unfold Pg.numS
  split
  · exact ⟨Nat.zero_le _, hp⟩
  split
  · rename_i h
    obtain ⟨_, h1, h2, h3⟩ := num_parts b s.1 most hp (numK_23 h)
    exact ⟨h1, h3⟩
  · exact ⟨Nat.zero_le _, hp⟩
theorem listS_le (b : ByteArray) (most : Nat) (s : Nat × Nat) (hp : s.1 ≤ b.size) : (Pg.listS b most s).1 ≤ most ∧ (Pg.listS b most s).2.1 ≤ b.size := by
  unfold Pg.listS
  split
  · exact ⟨Nat.zero_le _, hp⟩
  split
  · rename_i h
    obtain ⟨_, h1, h2, h3⟩ := num_parts b s.1 most hp h
    exact ⟨h1, h3⟩
  · exact ⟨Nat.zero_le _, hp⟩
theorem bitsS_le (b : ByteArray) (s : Nat × Nat) (hp : s.1 ≤ b.size) : (Pg.bitsS b s).1 < 18446744073709551616 ∧ (Pg.bitsS b s).2.1 ≤ b.size := by
  unfold Pg.bitsS
  split
  · exact ⟨show (0 : Nat) < 18446744073709551616 by decide, hp⟩
  split
  · rename_i h
    unfold bitsK at h
    split at h
    · cases h
    refine ⟨?_, by show s.1 + 8 ≤ _; omega⟩
    have h8 := Pk.fold8_lt (rest b s.1) 8
    by_cases hl : 8 ≤ (rest b s.1).length
    · have := h8 hl
      unfold bitsV
      show _ < _
      calc _ < 256 ^ 8 := this
        _ = _ := by decide
    · exfalso
      have : (rest b s.1).length = b.size - s.1 := by unfold rest; rw [List.length_drop, Array.length_toList]; rfl
      omega
  · exact ⟨show (0 : Nat) < 18446744073709551616 by decide, hp⟩
theorem rnum_st {w : World} {B : Nat} {b : ByteArray} {s : Nat × Nat} {most : Nat} (h : Rd w B b (s.1 : Int) (s.2 : Int)) (hp : s.1 ≤ b.size) (hb : b.size ≤ 140737488351232) :
    Calls Tryz.prog 21 #[.pointer (some ⟨B, 0, none⟩), .int .u64 (most : Int)] w fun e w' => e = .returned (.int .u64 ((Pg.numS b most s).1 : Int)) ∧ Rd w' B b ((Pg.numS b most s).2.1 : Int) ((Pg.numS b most s).2.2 : Int) ∧ w.grownBy w' (some B) := by
  obtain ⟨p, f⟩ := s
  by_cases hf : f = 0
  · subst hf
    refine (rnum_any (most := most) h hp hb).mono ?_
    intro e w' hF
    unfold Pg.numS
    rw [if_neg (by simp)]
    by_cases hk : numK b p most 21 = 0
    · rw [if_pos hk]; obtain ⟨h1, h2⟩ := hF.ok hk; exact ⟨h1, h2, hF.grown⟩
    · rw [if_neg hk]; obtain ⟨h1, h2⟩ := hF.no hk; exact ⟨h1, h2, hF.grown⟩
  · refine (rnum_dead (most := most) h (by show (f : Int) ≠ 0; omega)).mono ?_
    rintro e w' ⟨h1, h2⟩
    unfold Pg.numS
    rw [if_pos hf]
    exact ⟨h1, h.below h2 h.lt, grown_below h2 _⟩
theorem rbits_st {w : World} {B : Nat} {b : ByteArray} {s : Nat × Nat} (h : Rd w B b (s.1 : Int) (s.2 : Int)) (hp : s.1 ≤ b.size) (hb : b.size ≤ 140737488351232) :
    Calls Tryz.prog 71 #[.pointer (some ⟨B, 0, none⟩)] w fun e w' => e = .returned (.int .u64 ((Pg.bitsS b s).1 : Int)) ∧ Rd w' B b ((Pg.bitsS b s).2.1 : Int) ((Pg.bitsS b s).2.2 : Int) ∧ w.grownBy w' (some B) := by
  obtain ⟨p, f⟩ := s
  by_cases hf : f = 0
  · subst hf
    refine (rbits_any h hp hb).mono ?_
    intro e w' hF
    unfold Pg.bitsS
    rw [if_neg (by simp)]
    by_cases hk : bitsK b p = 0
    · rw [if_pos hk]; obtain ⟨h1, h2⟩ := hF.ok hk; exact ⟨h1, h2, hF.grown⟩
    · rw [if_neg hk]; obtain ⟨h1, h2⟩ := hF.no hk; exact ⟨h1, h2, hF.grown⟩
  · refine (rbits_dead h (by show (f : Int) ≠ 0; omega)).mono ?_
    rintro e w' ⟨h1, h2⟩
    unfold Pg.bitsS
    rw [if_pos hf]
    exact ⟨h1, h.below h2 h.lt, grown_below h2 _⟩

/-- an instruction's block -/
def Ib (w : World) (B : Nat) (x : In) : Prop := w.heap[B]? = some (.cells #[.int .i64 x.op, .int .i64 x.a, .int .i64 x.b, .int .i64 x.c, .int .i64 x.n, .int .u64 (x.k : Int)] 63 (0, 0))
theorem Ib.lt {w : World} {B : Nat} {x : In} (h : Ib w B x) : B < w.heap.size := lt_of_block h
theorem Ib.grown {w w' : World} {B : Nat} {x : In} (h : Ib w B x) {r : Option Nat} (g : w.grownBy w' r) (hn : some B ≠ r) : Ib w' B x := (g.block B h.lt hn).trans h
theorem ib_set {w : World} {B : Nat} {a b c d e f : Value} {T : TypeId} (h : w.heap[B]? = some (.cells #[a, b, c, d, e, f] T (0, 0))) (i : Nat) (u : Value) : (w.setCell ⟨B, i, none⟩ u).heap[B]? = some (.cells (#[a, b, c, d, e, f].setIfInBounds i u) T (0, 0)) := by
  unfold World.setCell
  simp [Array.getElem?_modify, h]
set_option maxHeartbeats 1000000 in
theorem set_any (x : In) (l v : Nat) (hv : l = 75 ∨ v < 4294967296) (B : Nat) (w : World) (h : Ib w B x) :
    Calls Tryz.prog 57 #[.pointer (some ⟨B, 0, none⟩), .int .i32 (l : Int), .int .u64 (v : Int)] w fun e w' => e = .returned (.tuple #[]) ∧ Ib w' B (Pg.setF x l v) ∧ w.grownBy w' (some B) := by
  obtain ⟨⟨x0, x1, x2, x3, x4, x5⟩, xz⟩ := six_of h
  have H := hide h
  clear h
  unfold Pg.setF
  by_cases h0 : l = 65
  · subst h0
    have hv : v < 4294967296 := by omega
    go_enter Tryz.func57, Tryz.ntmps57
    go_wp2
    go_end0
    exact ⟨rfl, ib_set H.out 1 _, grown_set w B 1 _⟩
  have b0 : ((l : Int) == 65) = false := by simp; omega
  rw [if_neg h0]
  by_cases h1 : l = 66
  · subst h1
    have hv : v < 4294967296 := by omega
    go_enter Tryz.func57, Tryz.ntmps57
    go_wp2
    go_end0
    exact ⟨rfl, ib_set H.out 2 _, grown_set w B 2 _⟩
  have b1 : ((l : Int) == 66) = false := by simp; omega
  rw [if_neg h1]
  by_cases h2 : l = 67
  · subst h2
    have hv : v < 4294967296 := by omega
    go_enter Tryz.func57, Tryz.ntmps57
    go_wp2
    go_end0
    exact ⟨rfl, ib_set H.out 3 _, grown_set w B 3 _⟩
  have b2 : ((l : Int) == 67) = false := by simp; omega
  rw [if_neg h2]
  by_cases h3 : l = 78
  · subst h3
    have hv : v < 4294967296 := by omega
    go_enter Tryz.func57, Tryz.ntmps57
    go_wp2
    go_end0
    exact ⟨rfl, ib_set H.out 4 _, grown_set w B 4 _⟩
  have b3 : ((l : Int) == 78) = false := by simp; omega
  rw [if_neg h3]
  clear hv
  go_enter Tryz.func57, Tryz.ntmps57
  go_wp2
  go_end0
  exact ⟨rfl, ib_set H.out 5 _, grown_set w B 5 _⟩
theorem results_one {fn : Func} {p : Tmp} {ty : TypeId} (h : fn.results = #[.cell p ty]) (tmps : Array Value) (P : Program) (w : World) :
    (results fn tmps).run P w = ((asAddr (tmps.getD p undef)).run P w).andThen fun a w₁ => (loadVar ty a).run P w₁ := by
  simp only [results, h]
  simp [Sem.run_bind, Result.andThen]
/-- behind a store in a block of one's own -/
theorem grown_own {a b c : World} {B C : Nat} (h : a.grownBy b (some B)) (k : b.grownBy c (some C)) (hC : a.heap.size ≤ C) : a.grownBy c (some B) :=
  ⟨k.os.trans h.os, k.tape.trans h.tape, k.output.trans h.output, Nat.le_trans h.size k.size, fun i hi hn => (k.block i (Nat.lt_of_lt_of_le hi h.size) (fun e => by injection e with e; omega)).trans (h.block i hi hn)⟩
theorem grown_iterAt (w : World) (IT : Nat) (s : ByteArray) (q : Nat) : w.grownBy (w.iterAt IT s q) (some IT) :=
  ⟨rfl, rfl, rfl, by rw [Lib.iterAt_size]; exact Nat.le_refl _, fun i _ hn => Lib.iterAt_other w IT i s q (fun e => hn (by rw [e]))⟩
theorem grown_one (w : World) (o : Obj) (r : Option Nat) : w.grownBy (w.alloc o) r := grown_below (below_one w o) r
end Go.Proofs.YtoiibpkfpeceeaaGreatDoor
end
