import Derived.Test.YtepondcflkledaaGreatRows
import Derived.WalkKit
import Derived.WalkSpells
import Derived.WalkLawsBesides
import Derived.BigQuiet
import Derived.BigRegion
import Derived.Deep.Cut
import Derived.Deep.AppendLies
import Derived.Deep.RegionLaw
import Derived.Deep.RegionHeld3
import Derived.Laws.StructEq
import Derived.Laws.ResultCell
import Derived.Laws.MakeOwn
import Derived.Laws.CopyOwn
import Derived.Lib.SliceRun

section
namespace Go.Proofs.YtepondcflkledaaGreat.Q
set_option maxRecDepth 20000
open Go.RowKit

theorem hide {p : Prop} (h : p) : Hid p := h
/-- a row -/
structure Rr where
  job : Int
  st : Int
  att : Int
  bdg : Int
  node : Int
  life : Int
  code : Int
  bits : Int
  deriving DecidableEq
/-- its cells -/
def Rr.cs (d : Rr) : List Value := [.int .i64 d.job, .int .i64 d.st, .int .i64 d.att, .int .i64 d.bdg, .int .i64 d.node, .int .i64 d.life, .int .i64 d.code, .int .u64 d.bits]
/-- as a value -/
abbrev Rr.val (d : Rr) : Value := .agg #[.int .i64 d.job, .int .i64 d.st, .int .i64 d.att, .int .i64 d.bdg, .int .i64 d.node, .int .i64 d.life, .int .i64 d.code, .int .u64 d.bits]
abbrev Rr.obj (d : Rr) : Obj := .cells #[.int .i64 d.job, .int .i64 d.st, .int .i64 d.att, .int .i64 d.bdg, .int .i64 d.node, .int .i64 d.life, .int .i64 d.code, .int .u64 d.bits] 82 (0, 0)
def rr0 : Rr := ⟨0, 0, 0, 0, 0, 0, 0, 0⟩
/-- the cells of rows -/
def rcs : List Rr → List Value
  | [] => []
  | d :: l => d.cs ++ rcs l
theorem rcs_len (l : List Rr) : (rcs l).length = l.length * 8 := by
  induction l with
  | nil => rfl
  | cons d l ih => simp only [rcs, List.length_append, ih, List.length_cons, Nat.add_mul]; simp [Rr.cs]; omega
theorem rcs_append (l m : List Rr) : rcs (l ++ m) = rcs l ++ rcs m := by
  induction l with
  | nil => rfl
  | cons d l ih => simp only [List.cons_append, rcs, ih, List.append_assoc]
theorem rcs_one (d : Rr) : rcs [d] = d.cs := by simp [rcs]
theorem rcs_take (l : List Rr) (k : Nat) : (rcs l).take (k * 8) = rcs (l.take k) := by
  induction l generalizing k with
  | nil => simp [rcs]
  | cons d l ih =>
    cases k with
    | zero => simp [rcs]
    | succ k =>
      have h6 : (Rr.cs d).length = 8 := rfl
      simp only [List.take_succ_cons, rcs, List.take_append, h6, ← ih]
      rw [List.take_of_length_le (by rw [h6]; omega), show (k + 1) * 8 - 8 = k * 8 by omega]
theorem rcs_drop (l : List Rr) (k : Nat) : (rcs l).drop (k * 8) = rcs (l.drop k) := by
  induction l generalizing k with
  | nil => simp [rcs]
  | cons d l ih =>
    cases k with
    | zero => simp
    | succ k =>
      have h6 : (Rr.cs d).length = 8 := rfl
      simp only [List.drop_succ_cons, rcs, List.drop_append, h6, ← ih]
      rw [List.drop_of_length_le (by rw [h6]; omega), show (k + 1) * 8 - 8 = k * 8 by omega, List.nil_append]
theorem rcs_get (l : List Rr) (i k : Nat) (hi : i < l.length) (hk : k < 8) : (rcs l)[i * 8 + k]? = (l[i]).cs[k]? := by
  have h := congrArg (fun x => x[k]?) (rcs_drop l i)
  simp only [List.getElem?_drop] at h
  rw [h, List.drop_eq_getElem_cons hi]
  simp only [rcs]
  rw [List.getElem?_append_left (by show k < 8; exact hk)]
theorem rcs_one_cell (l : List Rr) : ∀ u ∈ rcs l, u.oneCell' = true := by
  induction l with
  | nil => intro u hu; simp [rcs] at hu
  | cons d l ih =>
    intro u hu
    simp only [rcs, List.mem_append] at hu
    rcases hu with hu | hu
    · simp [Rr.cs] at hu
      rcases hu with rfl | rfl | rfl | rfl | rfl | rfl | rfl | rfl <;> rfl
    · exact ih u hu
theorem rcs_set (l : List Rr) (i : Nat) (d : Rr) (hi : i < l.length) : rcs (l.set i d) = (rcs l).take (i * 8) ++ (d.cs ++ (rcs l).drop (i * 8 + 8)) := by
  rw [List.set_eq_take_append_cons_drop, if_pos hi, rcs_append, rcs_take, show i * 8 + 8 = (i + 1) * 8 by omega, rcs_drop]
  rfl

/-- rows that are read -/
structure Rs (w : World) (ad : Option Addr) (ab ao : Nat) (L : List Rr) : Prop where
  at_ : 0 < L.length → ad = some ⟨ab, ao, none⟩
  c : ∀ i (h : i < L.length) k, k < 8 → w.cell? ⟨ab, ao + i * 8 + k, none⟩ = (L[i]).cs[k]?
theorem Rs.lt {w : World} {ad : Option Addr} {ab ao : Nat} {L : List Rr} (h : Rs w ad ab ao L) (h0 : 0 < L.length) : ab < w.heap.size := World.block_lt_of_cell? _ _ (h.c 0 h0 0 (by decide))
theorem Rs.keep {w w' : World} {ad : Option Addr} {ab ao : Nat} {L : List Rr} (h : Rs w ad ab ao L) (hk : 0 < L.length → w'.heap[ab]? = w.heap[ab]?) : Rs w' ad ab ao L :=
  ⟨h.at_, fun i hi k h8 => (World.cell?_of_block (hk (by omega))).trans (h.c i hi k h8)⟩
theorem Rs.below {w w' : World} {ad : Option Addr} {ab ao : Nat} {L : List Rr} (h : Rs w ad ab ao L) (hb : Below w.heap.size w w') : Rs w' ad ab ao L := h.keep fun h0 => hb.block _ (h.lt h0)
theorem Rs.eight {w : World} {ad : Option Addr} {ab ao : Nat} {L : List Rr} (h : Rs w ad ab ao L) {i : Nat} (hi : i < L.length) :
    w.cell? ⟨ab, ao + i * 8, none⟩ = some (.int .i64 (L[i]).job) ∧ w.cell? ⟨ab, ao + i * 8 + 1, none⟩ = some (.int .i64 (L[i]).st) ∧ w.cell? ⟨ab, ao + i * 8 + 2, none⟩ = some (.int .i64 (L[i]).att) ∧ w.cell? ⟨ab, ao + i * 8 + 3, none⟩ = some (.int .i64 (L[i]).bdg) ∧
    w.cell? ⟨ab, ao + i * 8 + 4, none⟩ = some (.int .i64 (L[i]).node) ∧ w.cell? ⟨ab, ao + i * 8 + 5, none⟩ = some (.int .i64 (L[i]).life) ∧ w.cell? ⟨ab, ao + i * 8 + 6, none⟩ = some (.int .i64 (L[i]).code) ∧ w.cell? ⟨ab, ao + i * 8 + 7, none⟩ = some (.int .u64 (L[i]).bits) :=
  ⟨h.c i hi 0 (by decide), h.c i hi 1 (by decide), h.c i hi 2 (by decide), h.c i hi 3 (by decide), h.c i hi 4 (by decide), h.c i hi 5 (by decide), h.c i hi 6 (by decide), h.c i hi 7 (by decide)⟩
theorem Rs.eight0 {w : World} {ad : Option Addr} {ab : Nat} {L : List Rr} (h : Rs w ad ab 0 L) {i : Nat} (hi : i < L.length) :
    w.cell? ⟨ab, i * 8, none⟩ = some (.int .i64 (L[i]).job) ∧ w.cell? ⟨ab, i * 8 + 1, none⟩ = some (.int .i64 (L[i]).st) ∧ w.cell? ⟨ab, i * 8 + 2, none⟩ = some (.int .i64 (L[i]).att) ∧ w.cell? ⟨ab, i * 8 + 3, none⟩ = some (.int .i64 (L[i]).bdg) ∧
    w.cell? ⟨ab, i * 8 + 4, none⟩ = some (.int .i64 (L[i]).node) ∧ w.cell? ⟨ab, i * 8 + 5, none⟩ = some (.int .i64 (L[i]).life) ∧ w.cell? ⟨ab, i * 8 + 6, none⟩ = some (.int .i64 (L[i]).code) ∧ w.cell? ⟨ab, i * 8 + 7, none⟩ = some (.int .u64 (L[i]).bits) := by
  have := h.eight hi
  simpa using this
/-- rows of one's own are read -/
theorem Rs.own {w : World} {B : Nat} {L : List Rr} {ad : Option Addr} {cap : Nat} (h : w.ownsRow B 82 8 (.slice ad L.length cap) L.length (rcs L)) : ∃ ab, Rs w ad ab 0 L ∧ (ad = none ∨ ad = some ⟨ab, 0, none⟩) ∧ L.length ≤ cap := by
  rcases h.2 with ⟨h1, hn⟩ | ⟨g, cap', cur, h1, hb, hg, hc, hm, hs, ht⟩
  · injection h1 with h1 h2 h3
    subst h1
    exact ⟨0, ⟨fun h => absurd h (by omega), fun i hi => absurd hi (by omega)⟩, .inl rfl, by omega⟩
  · injection h1 with h1 h2 h3
    subst h1; subst h3
    refine ⟨g, ⟨fun _ => rfl, fun i hi k hk => ?_⟩, .inr rfl, hc⟩
    have h1 := rcs_get L i k hi hk
    obtain ⟨u, hu⟩ : ∃ u, (L[i]).cs[k]? = some u := ⟨_, List.getElem?_eq_getElem (show k < 8 from hk)⟩
    rw [hu] at h1 ⊢
    have := h.cells (g := g) rfl (i * 8 + k) u h1
    rw [Addr.add_lit, Nat.zero_add] at this
    rw [Nat.zero_add]
    exact this

/-- '==' of two rows -/
theorem guardR (op : BinOp) (x y : Operand) (xs ys : Array Value) (w : World) : (eqGuard op 82 x y (.agg xs) (.agg ys)).run Tryz.prog w = .ok () w := run_eqGuard_agg w op _ x y xs ys (by kernel_rfl)
theorem eqR_any (a b : Rr) (w : World) : (Op.equalIn 10000 82 a.val b.val).run Tryz.prog w = .ok (decide (a = b)) w := by
  have u3 := Tryz.underlying3
  have a3 := Tryz.isAgg3
  have z3 := Tryz.sizeOf3
  have u9 := Tryz.underlying74
  have a9 := Tryz.isAgg74
  have z9 := Tryz.sizeOf74
  have u33 := Tryz.underlying80
  have a33 := Tryz.isAgg80
  have z33 := Tryz.sizeOf80
  have u34 := Tryz.underlying76
  have a34 := Tryz.isAgg76
  have z34 := Tryz.sizeOf76
  have hS : Tryz.prog.underlying 82 = some (.struct (Tryz.prog.fieldsOf 82)) := by kernel_rfl
  have hp : Tryz.prog.stoodInHeld 82 = false := by kernel_rfl
  have hS2 : Tryz.prog.underlying 80 = some (.struct (Tryz.prog.fieldsOf 80)) := by kernel_rfl
  have hp2 : Tryz.prog.stoodInHeld 80 = false := by kernel_rfl
  have hS3 : Tryz.prog.underlying 76 = some (.struct (Tryz.prog.fieldsOf 76)) := by kernel_rfl
  have hp3 : Tryz.prog.stoodInHeld 76 = false := by kernel_rfl
  obtain ⟨a0, a1, a2, b3, a4, a5, a6, a7⟩ := a
  obtain ⟨b0, b1, b2, c3, b4, b5, b6, b7⟩ := b
  have he : decide ((⟨a0, a1, a2, b3, a4, a5, a6, a7⟩ : Rr) = ⟨b0, b1, b2, c3, b4, b5, b6, b7⟩) = (a0 == b0 && (a1 == b1 && (a2 == b2 && (b3 == c3 && (a4 == b4 && (a5 == b5 && (a6 == b6 && a7 == b7))))))) := by
    rw [Bool.eq_iff_iff]
    simp
  rw [he, show (10000 : Nat) = 9999 + 1 from rfl, run_equalIn_agg w 9999 82 _ _ hS hp]
  simp only [Program.fieldsOf, Tryz.underlying82]
  clear he
  by_cases h0 : a0 = b0
  · subst h0
    by_cases h1 : a1 = b1
    · subst h1
      by_cases h2 : a2 = b2
      · subst h2
        by_cases h3 : b3 = c3
        · subst h3
          by_cases h4 : a4 = b4
          · subst h4
            by_cases h5 : a5 = b5
            · subst h5
              by_cases h6 : a6 = b6
              · subst h6
                by_cases h7 : a7 = b7
                · subst h7; go_simp
                · have e7 : (a7 == b7) = false := by simpa using h7
                  go_simp
              · have e7 : (a6 == b6) = false := by simpa using h6
                go_simp
            · have e7 : (a5 == b5) = false := by simpa using h5
              go_simp
          · have e7 : (a4 == b4) = false := by simpa using h4
            go_simp
        · have e7 : (b3 == c3) = false := by simpa using h3
          go_simp
      · have e7 : (a2 == b2) = false := by simpa using h2
        go_simp
    · have e7 : (a1 == b1) = false := by simpa using h1
      go_simp
  · have e7 : (a0 == b0) = false := by simpa using h0
    go_simp
end Go.Proofs.YtepondcflkledaaGreat.Q
end

section
namespace Go.Proofs.YtepondcflkledaaGreat.Q
set_option maxRecDepth 20000
open Go.RowKit

theorem fold_take {α : Type} (f : α → Rr → α) (a0 : α) (L : List Rr) (i : Nat) (hi : i < L.length) : (L.take (i + 1)).foldl f a0 = f ((L.take i).foldl f a0) L[i] := by
  rw [List.take_succ_eq_append_getElem hi, List.foldl_append]; rfl
theorem below_drewN {B : Nat} {w w' : World} (h : Below B w w') (n : Nat) : Below B w (w'.drewN n) := ⟨h.os, h.tape, h.output, h.size, h.block⟩
theorem below_alloc (w : World) (o : Obj) : Below w.heap.size w (w.alloc o) := (Below.refl _ _).alloc (Nat.le_refl _) o

set_option maxHeartbeats 2000000 in
set_option maxRecDepth 8000 in
/-- askAll at numbers -/
theorem askI_any {w : World} {ad : Option Addr} {ab ao cap : Nat} {L : List Rr} (h : Rs w ad ab ao L) (hl : L.length ≤ 4398046511104) (C : FuncId) (caps : Array Value) (f : Int → Rr → Int) (P : Nat → Int → Prop) (a0 : Int) (h0 : P 0 a0)
    (hrun : ∀ (a r : Value) (w1 : World), (callFunc C (#[a, r] ++ caps)).run Tryz.prog w1 = .ok (.enter C (#[a, r] ++ caps)) w1)
    (hc : ∀ (w1 : World) (i : Nat) (hi : i < L.length) (a : Int), Below w.heap.size w w1 → P i a → P (i + 1) (f a L[i]) ∧ Calls Tryz.prog C (#[.int .i64 a, (L[i]).val] ++ caps) w1 fun e w' => e = .returned (.int .i64 (f a L[i])) ∧ Below w1.heap.size w1 w') :
    Calls Tryz.prog 102 #[.slice ad L.length cap, .int .i64 a0, .func (.func C) #[] caps] w fun e w' => e = .returned (.int .i64 (L.foldl f a0)) ∧ Below w.heap.size w w' ∧ P L.length (L.foldl f a0) := by
  have HC := hide hc
  have HR := hide h
  have HP := hide h0
  clear hc h h0
  go_enter Tryz.func102, Tryz.ntmps102
  go_wp2_with fail
  go_loopw [1, 11] (fun t s wr => ∃ (i : Nat), i ≤ L.length ∧ t = .int .i64 ((L.take i).foldl f a0) ∧ s = .int .i64 (i : Int) ∧ Hid (P i ((L.take i).foldl f a0)) ∧ Hid (Below w.heap.size w wr)) (fun _ s _ => L.length - (intOf s).toNat)
  case atStart => exact ⟨0, Nat.zero_le _, rfl, rfl, HP, hide (Below.refl _ _)⟩
  case round =>
    obtain ⟨i, hi, rfl, rfl, HPi, HB⟩ := hrel
    by_cases hii : i < L.length
    · have hik : (i : Int) < (L.length : Int) := by omega
      have hat := HR.out.at_ (by omega)
      subst hat
      have hR := HR.out.below HB.out
      obtain ⟨c0, c1, c2, c3, c4, c5, c6, c7⟩ := hR.eight hii
      have hlt := hR.lt (by omega)
      have HX := hide (HC.out (wr.alloc (L[i]).obj) i hii _ (HB.out.alloc HB.out.size _) HPi.out)
      have hf := fold_take f a0 L i hii
      generalize (L.take i).foldl f a0 = a at *
      have HF := hide hf
      clear hf hR
      generalize L[i] = r at *
      go_wp2_with fail
      refine HX.out.2.mono ?_
      rintro e w2 ⟨rfl, hB2⟩
      have HB2 : Hid (Below w.heap.size w w2) := hide ((HB.out.alloc HB.out.size _).trans (hB2.mono (by rw [World.size_alloc]; have := HB.out.size; omega)))
      have HP2 := hide HX.out.1
      rw [← HF.out] at HP2
      have HF2 : Hid (Value.int .i64 (f a r) = .int .i64 ((L.take (i + 1)).foldl f a0)) := by rw [HF.out]; exact hide rfl
      clear hB2 HX c0 c1 c2 c3 c4 c5 c6 c7
      go_wp2_with fail
      go_roundw
      case rel => exact ⟨i + 1, by omega, HF2.out, by go_num, HP2, HB2⟩
      case measure => simp only [intOf]; omega
    · have hik : ¬ (i : Int) < (L.length : Int) := by omega
      obtain rfl : i = L.length := by omega
      rw [List.take_length] at HPi ⊢
      go_wp2_with fail
      go_ret
      exact ⟨rfl, HB.out, HPi.out⟩
set_option maxHeartbeats 2000000 in
set_option maxRecDepth 8000 in
/-- askAll at bools -/
theorem askB_any {w : World} {ad : Option Addr} {ab ao cap : Nat} {L : List Rr} (h : Rs w ad ab ao L) (hl : L.length ≤ 4398046511104) (C : FuncId) (caps : Array Value) (f : Bool → Rr → Bool) (a0 : Bool)
    (hrun : ∀ (a r : Value) (w1 : World), (callFunc C (#[a, r] ++ caps)).run Tryz.prog w1 = .ok (.enter C (#[a, r] ++ caps)) w1)
    (hc : ∀ (w1 : World) (i : Nat) (hi : i < L.length) (a : Bool), Below w.heap.size w w1 → Calls Tryz.prog C (#[.bool a, (L[i]).val] ++ caps) w1 fun e w' => e = .returned (.bool (f a L[i])) ∧ Below w1.heap.size w1 w') :
    Calls Tryz.prog 135 #[.slice ad L.length cap, .bool a0, .func (.func C) #[] caps] w fun e w' => e = .returned (.bool (L.foldl f a0)) ∧ Below w.heap.size w w' := by
  have HC := hide hc
  have HR := hide h
  clear hc h
  go_enter Tryz.func135, Tryz.ntmps135
  go_wp2_with fail
  go_loopw [1, 11] (fun t s wr => ∃ (i : Nat), i ≤ L.length ∧ t = .bool ((L.take i).foldl f a0) ∧ s = .int .i64 (i : Int) ∧ Hid (Below w.heap.size w wr)) (fun _ s _ => L.length - (intOf s).toNat)
  case atStart => exact ⟨0, Nat.zero_le _, rfl, rfl, hide (Below.refl _ _)⟩
  case round =>
    obtain ⟨i, hi, rfl, rfl, HB⟩ := hrel
    by_cases hii : i < L.length
    · have hik : (i : Int) < (L.length : Int) := by omega
      have hat := HR.out.at_ (by omega)
      subst hat
      have hR := HR.out.below HB.out
      obtain ⟨c0, c1, c2, c3, c4, c5, c6, c7⟩ := hR.eight hii
      have hlt := hR.lt (by omega)
      have HX := hide (HC.out (wr.alloc (L[i]).obj) i hii ((L.take i).foldl f a0) (HB.out.alloc HB.out.size _))
      have hf := fold_take f a0 L i hii
      generalize (L.take i).foldl f a0 = a at *
      have HF := hide hf
      clear hf hR
      generalize L[i] = r at *
      go_wp2_with fail
      refine HX.out.mono ?_
      rintro e w2 ⟨rfl, hB2⟩
      have HB2 : Hid (Below w.heap.size w w2) := hide ((HB.out.alloc HB.out.size _).trans (hB2.mono (by rw [World.size_alloc]; have := HB.out.size; omega)))
      have HF2 : Hid (Value.bool (f a r) = .bool ((L.take (i + 1)).foldl f a0)) := by rw [HF.out]; exact hide rfl
      clear hB2 HX c0 c1 c2 c3 c4 c5 c6 c7
      go_wp2_with fail
      go_roundw
      case rel => exact ⟨i + 1, by omega, HF2.out, by go_num, HB2⟩
      case measure => simp only [intOf]; omega
    · have hik : ¬ (i : Int) < (L.length : Int) := by omega
      obtain rfl : i = L.length := by omega
      rw [List.take_length]
      go_wp2_with fail
      go_ret
      exact ⟨rfl, HB.out⟩
end Go.Proofs.YtepondcflkledaaGreat.Q
end

section
namespace Go.Proofs.YtepondcflkledaaGreat.Q
set_option maxRecDepth 20000
open Go.RowKit

theorem results_c {fn : Func} {p : Tmp} {ty : TypeId} (h : fn.results = #[.cell p ty]) (tmps : Array Value) (P : Program) (w : World) :
    (results fn tmps).run P w = ((asAddr (tmps.getD p undef)).run P w).andThen fun a w₁ => (loadVar ty a).run P w₁ := by
  simp only [results, h]
  simp [Sem.run_bind, Result.andThen]

def hdF (h : Int) (r : Rr) : Int := if h = 0 ∧ r.st = 1 then r.job else h
def gbF (g : Int) (r : Rr) : Int := if g < r.bdg then r.bdg else g
def fnF (b : Int) (f r : Rr) : Rr := if 0 < r.att ∧ r.bdg = b then r else f
def shF (r : Rr) (found : Bool) (o : Rr) : Bool := found || (decide (o ≠ r) && decide (o.bdg = r.bdg))
def opF (most : Int) (s : Int × Int) (r : Rr) : Int × Int := if r.st = 1 ∨ r.st = 2 then (s.1 + 1, s.2 + most - r.att) else s

set_option maxHeartbeats 1000000 in
theorem head1_any (w : World) (h : Int) (r : Rr) : Calls Tryz.prog 115 #[.int .i64 h, r.val] w fun e w' => e = .returned (.int .i64 (hdF h r)) ∧ Below w.heap.size w w' := by
  by_cases h0 : h = 0
  · by_cases h1 : r.st = 1
    · have b0 : (h == 0) = true := by simpa using h0
      have b1 : (r.st == 1) = true := by simpa using h1
      have HE : Hid (hdF h r = r.job) := if_pos ⟨h0, h1⟩
      clear h0 h1
      go_enter Tryz.func115, Tryz.ntmps115
      go_wp2
      go_ret
      exact ⟨by rw [HE.out]; rfl, below_alloc _ _⟩
    · have b0 : (h == 0) = true := by simpa using h0
      have b1 : (r.st == 1) = false := by simpa using h1
      have HE : Hid (hdF h r = h) := if_neg fun x => h1 x.2
      clear h0 h1
      go_enter Tryz.func115, Tryz.ntmps115
      go_wp2
      go_ret
      exact ⟨by rw [HE.out]; rfl, below_alloc _ _⟩
  · have b0 : (h == 0) = false := by simpa using h0
    have HE : Hid (hdF h r = h) := if_neg fun x => h0 x.1
    clear h0
    go_enter Tryz.func115, Tryz.ntmps115
    go_wp2
    go_ret
    exact ⟨by rw [HE.out]; rfl, below_alloc _ _⟩
set_option maxHeartbeats 1000000 in
theorem great1_any (w : World) (g : Int) (r : Rr) : Calls Tryz.prog 152 #[.int .i64 g, r.val] w fun e w' => e = .returned (.int .i64 (gbF g r)) ∧ Below w.heap.size w w' := by
  by_cases h : g < r.bdg
  · have HE : Hid (gbF g r = r.bdg) := if_pos h
    go_enter Tryz.func152, Tryz.ntmps152
    go_wp2
    go_ret
    exact ⟨by rw [HE.out]; rfl, below_alloc _ _⟩
  · have HE : Hid (gbF g r = g) := if_neg h
    go_enter Tryz.func152, Tryz.ntmps152
    go_wp2
    go_ret
    exact ⟨by rw [HE.out]; rfl, below_alloc _ _⟩
set_option maxHeartbeats 1000000 in
theorem find1_any {w : World} {p : Nat} {b : Int} (hp : w.cell? ⟨p, 0, none⟩ = some (.int .i64 b)) (f r : Rr) : Calls Tryz.prog 79 #[f.val, r.val, .pointer (some ⟨p, 0, none⟩)] w fun e w' => e = .returned (fnF b f r).val ∧ Below w.heap.size w w' := by
  have hlt : p < w.heap.size := World.block_lt_of_cell? _ _ hp
  have hq : ∀ o1 o2 o3, (((w.alloc o1).alloc o2).alloc o3).cell? ⟨p, 0, none⟩ = some (.int .i64 b) := fun o1 o2 o3 => Lib.cell?_alloc_some _ (Lib.cell?_alloc_some _ (Lib.cell?_alloc_some _ hp))
  have HB : ∀ o1 o2 o3, Below w.heap.size w (((w.alloc o1).alloc o2).alloc o3) := fun o1 o2 o3 => ((below_alloc w o1).alloc (by simp) o2).alloc (by simp; omega) o3
  by_cases h0 : 0 < r.att
  · by_cases h1 : r.bdg = b
    · have b1 : (r.bdg == b) = true := by simpa using h1
      have HE : Hid (fnF b f r = r) := if_pos ⟨h0, h1⟩
      clear h1
      go_enter Tryz.func79, Tryz.ntmps79
      go_wp2
      refine bodyPost_ret (by rw [results_c (fn := Tryz.f79) rfl]; go_simp; rfl) rfl ?_
      exact ⟨by rw [HE.out], by exact HB _ _ _⟩
    · have b1 : (r.bdg == b) = false := by simpa using h1
      have HE : Hid (fnF b f r = f) := if_neg fun x => h1 x.2
      clear h1
      go_enter Tryz.func79, Tryz.ntmps79
      go_wp2
      refine bodyPost_ret (by rw [results_c (fn := Tryz.f79) rfl]; go_simp; rfl) rfl ?_
      exact ⟨by rw [HE.out], by exact HB _ _ _⟩
  · have HE : Hid (fnF b f r = f) := if_neg fun x => h0 x.1
    go_enter Tryz.func79, Tryz.ntmps79
    go_wp2
    refine bodyPost_ret (by rw [results_c (fn := Tryz.f79) rfl]; go_simp; rfl) rfl ?_
    exact ⟨by rw [HE.out], by exact HB _ _ _⟩
end Go.Proofs.YtepondcflkledaaGreat.Q
end

section
namespace Go.Proofs.YtepondcflkledaaGreat.Q
set_option maxRecDepth 20000
open Go.RowKit

/-- may a holder be -/
def hMay (n l : Int) : Prop := 2 ≤ n ∧ n < 10 ∧ 1 ≤ l ∧ l ≤ 1099511627776
instance (n l : Int) : Decidable (hMay n l) := by unfold hMay; infer_instance
/-- may a result be -/
def xMay (c b : Int) : Prop := c = 0 ∨ (1 ≤ c ∧ c ≤ 7 ∧ b = 0)
instance (c b : Int) : Decidable (xMay c b) := by unfold xMay; infer_instance
/-- the form of a row -/
def fm (job : Int) (r : Rr) : Rr := if r.st = 2 then ⟨job, r.st, r.att, r.bdg, r.node, r.life, 0, 0⟩ else if r.st = 3 then ⟨job, r.st, r.att, r.bdg, 0, 0, r.code, r.bits⟩ else ⟨job, r.st, r.att, r.bdg, 0, 0, 0, 0⟩
/-- by its status -/
def sMay (most : Int) (r : Rr) : Prop :=
  (r.st = 1 ∧ 0 ≤ r.att ∧ r.att < most) ∨ (r.st = 2 ∧ 1 ≤ r.att ∧ r.att ≤ most ∧ hMay r.node r.life) ∨ (r.st = 3 ∧ 1 ≤ r.att ∧ r.att ≤ most ∧ xMay r.code r.bits) ∨ (r.st = 4 ∧ r.att = most)
instance (m : Int) (r : Rr) : Decidable (sMay m r) := by unfold sMay; infer_instance
/-- by its badge -/
def bMay (r : Rr) : Prop := (r.att = 0 ∧ r.bdg = 0) ∨ (r.att ≠ 0 ∧ 1 ≤ r.bdg ∧ r.bdg ≤ 1099511627776)
instance (r : Rr) : Decidable (bMay r) := by unfold bMay; infer_instance

set_option maxHeartbeats 1000000 in
theorem holder_any (w : World) (n l : Int) : Calls Tryz.prog 133 #[.agg #[.int .i64 n, .int .i64 l]] w fun e w' => e = .returned (.bool (decide (hMay n l))) ∧ Below w.heap.size w w' := by
  by_cases h1 : 2 ≤ n
  · by_cases h2 : n < 10
    · by_cases h3 : 1 ≤ l
      · by_cases h4 : l ≤ 1099511627776
        · have HE : Hid (decide (hMay n l) = true) := hide (decide_eq_true (⟨h1, h2, h3, h4⟩))
          go_enter Tryz.func133, Tryz.ntmps133
          go_wp2
          go_ret
          exact ⟨by rw [HE.out]; rfl, below_alloc _ _⟩
        · have HE : Hid (decide (hMay n l) = false) := hide (decide_eq_false (fun h => h4 h.2.2.2))
          go_enter Tryz.func133, Tryz.ntmps133
          go_wp2
          go_ret
          exact ⟨by rw [HE.out]; rfl, below_alloc _ _⟩
      · have HE : Hid (decide (hMay n l) = false) := hide (decide_eq_false (fun h => h3 h.2.2.1))
        go_enter Tryz.func133, Tryz.ntmps133
        go_wp2
        go_ret
        exact ⟨by rw [HE.out]; rfl, below_alloc _ _⟩
    · have HE : Hid (decide (hMay n l) = false) := hide (decide_eq_false (fun h => h2 h.2.1))
      go_enter Tryz.func133, Tryz.ntmps133
      go_wp2
      go_ret
      exact ⟨by rw [HE.out]; rfl, below_alloc _ _⟩
  · have HE : Hid (decide (hMay n l) = false) := hide (decide_eq_false (fun h => h1 h.1))
    go_enter Tryz.func133, Tryz.ntmps133
    go_wp2
    go_ret
    exact ⟨by rw [HE.out]; rfl, below_alloc _ _⟩
set_option maxHeartbeats 1000000 in
theorem result_any (w : World) (c b : Int) : Calls Tryz.prog 134 #[.agg #[.int .i64 c, .int .u64 b]] w fun e w' => e = .returned (.bool (decide (xMay c b))) ∧ Below w.heap.size w w' := by
  by_cases h0 : c = 0
  · have HE : Hid (decide (xMay c b) = true) := hide (decide_eq_true ((.inl h0)))
    have b0 : (c == 0) = true := by simpa using h0
    clear h0
    go_enter Tryz.func134, Tryz.ntmps134
    go_wp2
    go_ret
    exact ⟨by rw [HE.out]; rfl, below_alloc _ _⟩
  · have b0 : (c == 0) = false := by simpa using h0
    by_cases h1 : 1 ≤ c
    · by_cases h2 : c ≤ 7
      · by_cases h3 : b = 0
        · have HE : Hid (decide (xMay c b) = true) := hide (decide_eq_true ((.inr ⟨h1, h2, h3⟩)))
          have b3 : (b == 0) = true := by simpa using h3
          clear h3
          go_enter Tryz.func134, Tryz.ntmps134
          go_wp2
          go_ret
          exact ⟨by rw [HE.out]; rfl, below_alloc _ _⟩
        · have HE : Hid (decide (xMay c b) = false) := hide (decide_eq_false (fun h => h.elim h0 fun h => h3 h.2.2))
          have b3 : (b == 0) = false := by simpa using h3
          clear h3
          go_enter Tryz.func134, Tryz.ntmps134
          go_wp2
          go_ret
          exact ⟨by rw [HE.out]; rfl, below_alloc _ _⟩
      · have HE : Hid (decide (xMay c b) = false) := hide (decide_eq_false (fun h => h.elim h0 fun h => h2 h.2.1))
        go_enter Tryz.func134, Tryz.ntmps134
        go_wp2
        go_ret
        exact ⟨by rw [HE.out]; rfl, below_alloc _ _⟩
    · have HE : Hid (decide (xMay c b) = false) := hide (decide_eq_false (fun h => h.elim h0 fun h => h1 h.1))
      go_enter Tryz.func134, Tryz.ntmps134
      go_wp2
      go_ret
      exact ⟨by rw [HE.out]; rfl, below_alloc _ _⟩
theorem below_alloc3 (w : World) (o1 o2 o3 : Obj) : Below w.heap.size w (((w.alloc o1).alloc o2).alloc o3) := ((below_alloc w o1).alloc (by simp) o2).alloc (by simp; omega) o3
set_option maxHeartbeats 1000000 in
theorem formed_any (w : World) (job : Int) (r : Rr) : Calls Tryz.prog 104 #[.int .i64 job, r.val] w fun e w' => e = .returned (fm job r).val ∧ Below w.heap.size w w' := by
  by_cases h2 : r.st = 2
  · have HE : Hid (fm job r = ⟨job, r.st, r.att, r.bdg, r.node, r.life, 0, 0⟩) := if_pos h2
    have b2 : (r.st == 2) = true := by simpa using h2
    clear h2
    go_enter Tryz.func104, Tryz.ntmps104
    go_wp2
    refine bodyPost_ret (by rw [results_c (fn := Tryz.f104) rfl]; go_simp; rfl) rfl ?_
    exact ⟨by rw [HE.out], below_alloc3 _ _ _ _⟩
  · have b2 : (r.st == 2) = false := by simpa using h2
    by_cases h3 : r.st = 3
    · have HE : Hid (fm job r = ⟨job, r.st, r.att, r.bdg, 0, 0, r.code, r.bits⟩) := (if_neg h2).trans (if_pos h3)
      have b3 : (r.st == 3) = true := by simpa using h3
      clear h2 h3
      go_enter Tryz.func104, Tryz.ntmps104
      go_wp2
      refine bodyPost_ret (by rw [results_c (fn := Tryz.f104) rfl]; go_simp; rfl) rfl ?_
      exact ⟨by rw [HE.out], below_alloc3 _ _ _ _⟩
    · have HE : Hid (fm job r = ⟨job, r.st, r.att, r.bdg, 0, 0, 0, 0⟩) := (if_neg h2).trans (if_neg h3)
      have b3 : (r.st == 3) = false := by simpa using h3
      clear h2 h3
      go_enter Tryz.func104, Tryz.ntmps104
      go_wp2
      refine bodyPost_ret (by rw [results_c (fn := Tryz.f104) rfl]; go_simp; rfl) rfl ?_
      exact ⟨by rw [HE.out], below_alloc3 _ _ _ _⟩
end Go.Proofs.YtepondcflkledaaGreat.Q
end

section
namespace Go.Proofs.YtepondcflkledaaGreat.Q
set_option maxRecDepth 20000
open Go.RowKit

theorem heap_set_self (w : World) (g o : Nat) (v : Value) (cur : Array Value) (t : TypeId) (fr : Nat × Nat) (h : w.heap[g]? = some (.cells cur t fr)) : (w.setCell ⟨g, o, none⟩ v).heap[g]? = some (.cells (cur.setIfInBounds o v) t fr) := by
  have hlt := lt_of_block h
  have h' : w.heap[g] = .cells cur t fr := by simpa [Array.getElem?_eq_getElem hlt] using h
  show (w.heap.modify g _)[g]? = _
  rw [Array.getElem?_eq_getElem (by simpa using hlt), Array.getElem_modify_self, h']
  rfl
theorem setCell_size (w : World) (a : Addr) (v : Value) : (w.setCell a v).heap.size = w.heap.size := by simp [World.setCell]
/-- a block of a row -/
def Bx (w : World) (X : Nat) (r : Rr) : Prop := w.heap[X]? = some r.obj
theorem Bx.cells {w : World} {X : Nat} {r : Rr} (h : Bx w X r) : w.cell? ⟨X, 0, none⟩ = some (.int .i64 r.job) ∧ w.cell? ⟨X, 1, none⟩ = some (.int .i64 r.st) ∧ w.cell? ⟨X, 2, none⟩ = some (.int .i64 r.att) ∧ w.cell? ⟨X, 3, none⟩ = some (.int .i64 r.bdg) ∧ w.cell? ⟨X, 4, none⟩ = some (.int .i64 r.node) ∧ w.cell? ⟨X, 5, none⟩ = some (.int .i64 r.life) ∧ w.cell? ⟨X, 6, none⟩ = some (.int .i64 r.code) ∧ w.cell? ⟨X, 7, none⟩ = some (.int .u64 r.bits) := by
  unfold Bx at h
  simp [World.cell?, h]
theorem Bx.z {w : World} {X : Nat} {r : Rr} (h : Bx w X r) (k : Nat) : w.frozen? ⟨X, k, none⟩ = false := by unfold Bx at h; simp [World.frozen?, h]
theorem Bx.lt {w : World} {X : Nat} {r : Rr} (h : Bx w X r) : X < w.heap.size := lt_of_block h
theorem Bx.keep {w w' : World} {X : Nat} {r : Rr} (h : Bx w X r) (e : w'.heap[X]? = w.heap[X]?) : Bx w' X r := e.trans h
/-- a row stored into a block -/
abbrev set8 (w : World) (X : Nat) (r : Rr) : World := (((((((w.setCell ⟨X, 0, none⟩ (.int .i64 r.job)).setCell ⟨X, 1, none⟩ (.int .i64 r.st)).setCell ⟨X, 2, none⟩ (.int .i64 r.att)).setCell ⟨X, 3, none⟩ (.int .i64 r.bdg)).setCell ⟨X, 4, none⟩ (.int .i64 r.node)).setCell ⟨X, 5, none⟩ (.int .i64 r.life)).setCell ⟨X, 6, none⟩ (.int .i64 r.code)).setCell ⟨X, 7, none⟩ (.int .u64 r.bits)
theorem Bx.put {w : World} {X : Nat} {q : Rr} (h : Bx w X q) (r : Rr) : Bx (set8 w X r) X r := by
  have e0 := heap_set_self w X 0 (.int .i64 r.job) _ _ _ h
  have e1 := heap_set_self _ X 1 (.int .i64 r.st) _ _ _ e0
  have e2 := heap_set_self _ X 2 (.int .i64 r.att) _ _ _ e1
  have e3 := heap_set_self _ X 3 (.int .i64 r.bdg) _ _ _ e2
  have e4 := heap_set_self _ X 4 (.int .i64 r.node) _ _ _ e3
  have e5 := heap_set_self _ X 5 (.int .i64 r.life) _ _ _ e4
  have e6 := heap_set_self _ X 6 (.int .i64 r.code) _ _ _ e5
  have e7 := heap_set_self _ X 7 (.int .u64 r.bits) _ _ _ e6
  simp only [List.setIfInBounds_toArray, List.set_cons_zero, List.set_cons_succ] at e7
  exact e7
theorem set8_other (w : World) (X : Nat) (r : Rr) (k : Nat) (hk : k ≠ X) : (set8 w X r).heap[k]? = w.heap[k]? :=
  (Below.heap_setCell _ ⟨X, 7, none⟩ _ k hk).trans ((Below.heap_setCell _ ⟨X, 6, none⟩ _ k hk).trans ((Below.heap_setCell _ ⟨X, 5, none⟩ _ k hk).trans ((Below.heap_setCell _ ⟨X, 4, none⟩ _ k hk).trans ((Below.heap_setCell _ ⟨X, 3, none⟩ _ k hk).trans ((Below.heap_setCell _ ⟨X, 2, none⟩ _ k hk).trans ((Below.heap_setCell _ ⟨X, 1, none⟩ _ k hk).trans (Below.heap_setCell _ ⟨X, 0, none⟩ _ k hk)))))))
theorem set8_size (w : World) (X : Nat) (r : Rr) : (set8 w X r).heap.size = w.heap.size := by
  unfold set8
  simp only [setCell_size]
theorem below_set {B : Nat} {w w' : World} (h : Below B w w') {X : Nat} (hX : B ≤ X) (o : Nat) (v : Value) : Below B w (w'.setCell ⟨X, o, none⟩ v) :=
  ⟨h.os, h.tape, h.output, by rw [setCell_size]; exact h.size, fun k hk => (Below.heap_setCell _ ⟨X, o, none⟩ _ k (show k ≠ X by omega)).trans (h.block k hk)⟩
theorem set8_below {B : Nat} {w w' : World} (h : Below B w w') (X : Nat) (hX : B ≤ X) (r : Rr) : Below B w (set8 w' X r) := by
  have e0 := below_set h hX 0 (.int .i64 r.job)
  have e1 := below_set e0 hX 1 (.int .i64 r.st)
  have e2 := below_set e1 hX 2 (.int .i64 r.att)
  have e3 := below_set e2 hX 3 (.int .i64 r.bdg)
  have e4 := below_set e3 hX 4 (.int .i64 r.node)
  have e5 := below_set e4 hX 5 (.int .i64 r.life)
  have e6 := below_set e5 hX 6 (.int .i64 r.code)
  exact below_set e6 hX 7 (.int .u64 r.bits)

set_option maxHeartbeats 4000000 in
set_option maxRecDepth 8000 in
/-- askAll at rows -/
theorem askR_any {w : World} {ad : Option Addr} {ab ao cap : Nat} {L : List Rr} (h : Rs w ad ab ao L) (hl : L.length ≤ 4398046511104) (C : FuncId) (caps : Array Value) (f : Rr → Rr → Rr) (a0 : Rr)
    (hrun : ∀ (a r : Value) (w1 : World), (callFunc C (#[a, r] ++ caps)).run Tryz.prog w1 = .ok (.enter C (#[a, r] ++ caps)) w1)
    (hc : ∀ (w1 : World) (i : Nat) (hi : i < L.length) (a : Rr), Below w.heap.size w w1 → Calls Tryz.prog C (#[a.val, (L[i]).val] ++ caps) w1 fun e w' => e = .returned (f a L[i]).val ∧ Below w1.heap.size w1 w') :
    Calls Tryz.prog 78 #[.slice ad L.length cap, a0.val, .func (.func C) #[] caps] w fun e w' => e = .returned (L.foldl f a0).val ∧ Below w.heap.size w w' := by
  have HC := hide hc
  have HR := hide h
  have hs1 := World.size_alloc w a0.obj
  have H0 : Hid (Bx ((w.alloc a0.obj).alloc rr0.obj) w.heap.size a0 ∧ Bx ((w.alloc a0.obj).alloc rr0.obj) (w.heap.size + 1) rr0 ∧ Below w.heap.size w ((w.alloc a0.obj).alloc rr0.obj)) := hide ⟨(Below.heap_alloc _ _ _ (by omega)).trans (heap_alloc_new w _), by rw [← hs1]; exact heap_alloc_new _ _, (below_alloc w _).alloc (by omega) _⟩
  clear hc h hs1
  go_enter Tryz.func78, Tryz.ntmps78
  go_wp2_with fail
  obtain ⟨X, hX⟩ : ∃ X, w.heap.size = X := ⟨_, rfl⟩
  have HXe := hide hX
  rw [hX] at H0 ⊢
  go_loopw [11] (fun s wr => ∃ (i : Nat), i ≤ L.length ∧ s = .int .i64 (i : Int) ∧ Hid (Bx wr X ((L.take i).foldl f a0) ∧ Bx wr (X + 1) rr0 ∧ Below X w wr)) (fun s _ => L.length - (intOf s).toNat)
  case atStart => exact ⟨0, Nat.zero_le _, rfl, H0⟩
  case round =>
    clear H0
    obtain ⟨i, hi, rfl, HB⟩ := hrel
    by_cases hii : i < L.length
    · have hik : (i : Int) < (L.length : Int) := by omega
      have hat := HR.out.at_ (by omega)
      subst hat
      have hbw : Below w.heap.size w wr := by rw [hX]; exact HB.out.2.2
      have hR := HR.out.below hbw
      obtain ⟨c0, c1, c2, c3, c4, c5, c6, c7⟩ := hR.eight hii
      have hlt := hR.lt (by omega)
      have hxlt := HB.out.1.lt
      have HX := hide (HC.out (wr.alloc (L[i]).obj) i hii ((L.take i).foldl f a0) (hbw.alloc hbw.size _))
      have hf := fold_take f a0 L i hii
      have hba : Bx (wr.alloc (L[i]).obj) X ((L.take i).foldl f a0) := HB.out.1.keep (Below.heap_alloc _ _ _ hxlt)
      generalize (L.take i).foldl f a0 = a at *
      have HF := hide hf
      clear hf hR hX
      generalize L[i] = r at *
      have HBA := hide hba
      obtain ⟨d0, d1, d2, d3, d4, d5, d6, d7⟩ := hba.cells
      clear hba
      go_wp2_with fail
      refine HX.out.mono ?_
      rintro e w2 ⟨rfl, hB2⟩
      clear d0 d1 d2 d3 d4 d5 d6 d7 c0 c1 c2 c3 c4 c5 c6 c7
      have hba2 : Bx w2 X a := HBA.out.keep (hB2.block X HBA.out.lt)
      have HBY : Hid (Bx w2 (X + 1) rr0) := hide (HB.out.2.1.keep ((hB2.block (X + 1) (by rw [World.size_alloc]; have := HB.out.2.1.lt; omega)).trans (Below.heap_alloc _ _ _ HB.out.2.1.lt)))
      have HB2 : Hid (Below X w w2) := hide ((HB.out.2.2.alloc (by omega) _).trans (hB2.mono (by rw [World.size_alloc]; omega)))
      obtain ⟨d0, d1, d2, d3, d4, d5, d6, d7⟩ := hba2.cells
      have z0 := hba2.z 0
      have z1 := hba2.z 1
      have z2 := hba2.z 2
      have z3 := hba2.z 3
      have z4 := hba2.z 4
      have z5 := hba2.z 5
      have z6 := hba2.z 6
      have z7 := hba2.z 7
      have HFin : Hid (Bx (set8 w2 X (f a r)) X ((L.take (i + 1)).foldl f a0) ∧ Bx (set8 w2 X (f a r)) (X + 1) rr0 ∧ Below X w (set8 w2 X (f a r))) := hide ⟨by rw [HF.out]; exact hba2.put _, HBY.out.keep (set8_other _ _ _ _ (by omega)), set8_below HB2.out X (Nat.le_refl _) _⟩
      clear hB2 HX hba2 HB2 HBY HBA HB hbw
      go_wp2_with fail
      go_roundw
      case rel => exact ⟨i + 1, by omega, by go_num, HFin⟩
      case measure => simp only [intOf]; omega
    · have hik : ¬ (i : Int) < (L.length : Int) := by omega
      obtain rfl : i = L.length := by omega
      rw [List.take_length] at HB
      obtain ⟨a, ha⟩ : ∃ a, L.foldl f a0 = a := ⟨_, rfl⟩
      have HE := hide ha
      rw [ha] at HB
      clear ha
      obtain ⟨d0, d1, d2, d3, d4, d5, d6, d7⟩ := HB.out.1.cells
      obtain ⟨e0, e1, e2, e3, e4, e5, e6, e7⟩ := HB.out.2.1.cells
      have z0 := HB.out.2.1.z 0
      have z1 := HB.out.2.1.z 1
      have z2 := HB.out.2.1.z 2
      have z3 := HB.out.2.1.z 3
      have z4 := HB.out.2.1.z 4
      have z5 := HB.out.2.1.z 5
      have z6 := HB.out.2.1.z 6
      have z7 := HB.out.2.1.z 7
      clear hX
      go_wp2_with fail
      refine bodyPost_ret (by rw [results_c (fn := Tryz.f78) rfl]; go_simp; rfl) rfl ?_
      exact ⟨by rw [HE.out], by rw [HXe.out]; exact set8_below HB.out.2.2 (X + 1) (by omega) a⟩
end Go.Proofs.YtepondcflkledaaGreat.Q
end
