import Derived.Test.YtpgehocadohkiaaGreatDoorMgAG
import Derived.Test.YtpgehocadohkiaaGreatDoorMgAM
import Derived.Test.YtpgehocadohkiaaGreatDoorMgAP

section
namespace Go.Proofs.YtpgehocadohkiaaGreatDoor
open Go.RowKit Go.Shelf

theorem tab64_below' {a b : World} (h : Tab64 a) (k : Below a.heap.size a b) : Tab64 b := fun j hj => (k.cell (p := ⟨4, j, none⟩) (World.block_lt_of_cell? _ _ (h j hj))).trans (h j hj)
/-- the two tables of the library -/
structure Tabs (w : World) : Prop where
  t64 : Tab64 w
  t10 : Tab10 w
theorem Tabs.below {a b : World} (h : Tabs a) {n : Nat} (k : Below n a b) (hn : a.heap.size ≤ n) : Tabs b := ⟨tab64_below' h.t64 (k.mono hn), tab10_below h.t10 (k.mono hn)⟩
namespace Pg
def fieldT (l v : Nat) : ByteArray := if l = 75 then textB v else if l = 78 then ⟨(Lib.decDigits v).toArray⟩ else (⟨#[114]⟩ : ByteArray) ++ ⟨(Lib.decDigits v).toArray⟩
def goT (x : In) : List UInt8 → ByteArray → ByteArray
  | [], acc => acc
  | l :: r, acc => goT x r (acc ++ ((⟨#[32]⟩ : ByteArray) ++ fieldT l.toNat (get x l.toNat)))
def insT (x : In) : ByteArray := goT x (shape x.op).1.flds.data.toList (shape x.op).1.word
def fieldB (x : In) (l : Nat) : ByteArray := if l = 75 then ⟨(Pk.big8 x.k).toArray⟩ else ⟨(Pk.enc (get x l)).toArray⟩
def goB (x : In) : List UInt8 → ByteArray → ByteArray
  | [], acc => acc
  | l :: r, acc => goB x r (acc ++ fieldB x l.toNat)
def insB (x : In) : ByteArray := goB x (shape x.op).1.flds.data.toList ⟨(Pk.enc (un x.op)).toArray⟩
def okF (s : Sh) : Bool := decide (s.flds.size ≤ 3) && s.flds.data.toList.all (fun c => decide (c.toNat < 128)) && decide (s.word.size ≤ 5)
theorem tbl_ok : tbl.all okF = true := by decide
theorem find_ok (p : Sh → Bool) : okF (find p).1 = true := by
  unfold find
  cases h : tbl.findIdx? p with
  | none => rfl
  | some k =>
    have hk : k < tbl.length := (List.findIdx?_eq_some_iff_getElem.1 h).1
    show okF tbl[k]! = true
    rw [getElem!_pos tbl k hk]
    exact List.all_eq_true.1 tbl_ok _ (List.getElem_mem hk)
theorem shape_ok (op : Int) : (shape op).1.flds.size ≤ 3 ∧ (∀ c ∈ (shape op).1.flds.data.toList, c.toNat < 128) ∧ (shape op).1.word.size ≤ 5 := by
  have h := find_ok (fun s => s.op == op)
  unfold okF at h
  simp only [Bool.and_eq_true, decide_eq_true_eq, List.all_eq_true] at h
  exact ⟨h.1.1, h.1.2, h.2⟩
end Pg
theorem textB_len (v : Nat) (hv : v < 18446744073709551616) : (textB v).size ≤ 101 := by
  have hc : Gn.canonW v < 18446744073709551616 := by unfold Gn.canonW; split <;> omega
  unfold textB
  split
  · exact Nat.le_succ_of_le (amt_size _)
  · rw [ByteArray.size_append]
    have := amt_size (Gn.canonW v % 9223372036854775808)
    show 1 + _ ≤ 101
    omega
theorem fieldT_len (l v : Nat) (hv : v < 18446744073709551616) : (Pg.fieldT l v).size ≤ 101 := by
  have := nd_le v hv
  have := textB_len v hv
  unfold Pg.fieldT
  repeat' split
  · assumption
  · show (Lib.decDigits v).toArray.size ≤ 101; simp; omega
  · rw [ByteArray.size_append]; show 1 + (Lib.decDigits v).toArray.size ≤ 101; simp; omega
theorem fieldB_len (x : In) (hx : x.k < 18446744073709551616) (l : Nat) : (Pg.fieldB x l).size ≤ 10 := by
  unfold Pg.fieldB
  split
  · show 8 ≤ 10; decide
  · have := Pk.enc_ten (get_lt x hx l); show (Pk.enc _).toArray.size ≤ 10; simpa using this
set_option maxHeartbeats 1000000 in
theorem fieldText_any (l v : Nat) (hv : v < 18446744073709551616) (w : World) (hT : Tabs w) :
    Calls Tryz.prog 43 #[.int .i32 (l : Int), .int .u64 (v : Int)] w fun e w' => e = .returned (.string (Pg.fieldT l v)) ∧ Below w.heap.size w w' := by
  have HT := hide (text_any v hv w hT.t64 hT.t10)
  have HF := hide (formatUint_any v hv w hT.t10)
  have hadd : ∀ w1 : World, (Op.stringOp .add ⟨#[114]⟩ ⟨(Lib.decDigits v).toArray⟩).run Tryz.prog w1 = .ok (.string ((⟨#[114]⟩ : ByteArray) ++ ⟨(Lib.decDigits v).toArray⟩)) w1 := fun w1 =>
    run_string_add_sum w1 _ _ (by have := nd_le v hv; show 1 + (Lib.decDigits v).toArray.size ≤ _; simp; omega)
  clear hT
  unfold Pg.fieldT
  generalize textB v = T at *
  generalize (⟨#[114]⟩ : ByteArray) ++ ⟨(Lib.decDigits v).toArray⟩ = R at *
  generalize (⟨(Lib.decDigits v).toArray⟩ : ByteArray) = D at *
  by_cases h1 : l = 75
  · subst h1
    rw [if_pos rfl]
    go_enter Tryz.func43, Tryz.ntmps43
    go_wp2_with (go_at_call 71; refine HT.out.mono ?_; rintro e w' ⟨rfl, hb⟩)
    go_ret
    exact ⟨rfl, hb⟩
  rw [if_neg h1]
  have b1 : ((l : Int) == 75) = false := by simp; omega
  by_cases h2 : l = 78
  · subst h2
    rw [if_pos rfl]
    go_enter Tryz.func43, Tryz.ntmps43
    go_wp2_with (go_at_call 72; refine HF.out.mono ?_; rintro e w' ⟨rfl, hb⟩)
    go_ret
    exact ⟨rfl, hb⟩
  rw [if_neg h2]
  have b2 : ((l : Int) == 78) = false := by simp; omega
  go_enter Tryz.func43, Tryz.ntmps43
  go_wp2_with (go_at_call 72; refine HF.out.mono ?_; rintro e w' ⟨rfl, hb⟩)
  go_ret
  exact ⟨rfl, hb⟩
theorem at_toList (s : ByteArray) (k : Nat) (h : k < s.size) : s.data.toList.drop k = s[k] :: s.data.toList.drop (k + 1) := by
  have h' : k < s.data.toList.length := by rw [Array.length_toList]; exact h
  rw [List.drop_eq_getElem_cons h']
  rfl
theorem at_mem (s : ByteArray) (k : Nat) (h : k < s.size) : s[k] ∈ s.data.toList := by
  have h' : k < s.data.toList.length := by rw [Array.length_toList]; exact h
  exact List.getElem_mem h'
theorem fin_toList (s : ByteArray) : s.data.toList.drop s.size = [] := by
  apply List.drop_eq_nil_of_le
  rw [Array.length_toList]
  exact Nat.le_refl _
set_option maxHeartbeats 1000000 in
theorem insBytes_any (x : In) (hx : x.k < 18446744073709551616) (w : World) :
    Calls Tryz.prog 20 #[.agg #[.int .i64 x.op, .int .i64 x.a, .int .i64 x.b, .int .i64 x.c, .int .i64 x.n, .int .u64 (x.k : Int)]] w fun e w' => e = .returned (.string (Pg.insB x)) ∧ Below w.heap.size w w' := by
  have HS := hide (shapeOf_any x.op)
  have HO := hide (Pg.shape_ok x.op)
  unfold Pg.insB
  generalize Pg.shape x.op = sh at *
  obtain ⟨⟨so, sw, sf⟩, sb⟩ := sh
  go_enter Tryz.func20, Tryz.ntmps20
  go_wp2_with fail
  refine (HS.out _).mono ?_
  rintro e w1 ⟨rfl, hb1⟩
  have hx1 : w1.heap[w.heap.size]? = some (.cells #[.int .i64 x.op, .int .i64 x.a, .int .i64 x.b, .int .i64 x.c, .int .i64 x.n, .int .u64 (x.k : Int)] 71 (0, 0)) := (hb1.block w.heap.size (by simp)).trans (heap_alloc_new w _)
  have HB1 : Hid (Below w.heap.size w w1) := (below_one w _).trans (hb1.mono (by simp))
  have HZ1 : Hid (w.heap.size + 1 ≤ w1.heap.size) := by have := hb1.size; rw [World.size_alloc] at this; exact this
  have HX1 := hide hx1
  obtain ⟨⟨x0, x1, x2, x3, x4, x5⟩, xz⟩ := six_of hx1
  have hlt1 : w.heap.size < w1.heap.size := lt_of_block hx1
  clear hb1 HS hx1
  go_wp2_with fail
  rw [un_wrap]
  refine (pnum_any (Pg.un x.op) (un_lt _) _).mono ?_
  rintro e w2 ⟨rfl, hb2⟩
  have HB2 : Hid (Below w.heap.size w w2) := (HB1.out.alloc HB1.out.size _).trans (hb2.mono (by have := HB1.out.size; simp; omega))
  have HX2 : Hid (w2.heap[w.heap.size]? = some (.cells #[.int .i64 x.op, .int .i64 x.a, .int .i64 x.b, .int .i64 x.c, .int .i64 x.n, .int .u64 (x.k : Int)] 71 (0, 0))) := (hb2.block _ (by have := HZ1.out; simp; omega)).trans ((Below.heap_alloc w1 _ _ hlt1).trans HX1.out)
  have HS2 : Hid (w2.heap[w1.heap.size]? = some (.cells #[.int .i64 so, .string sw, .string sf] 110 (0, 0))) := (hb2.block _ (by simp)).trans (heap_alloc_new w1 _)
  have HA : Hid ((⟨(Pk.enc (Pg.un x.op)).toArray⟩ : ByteArray).size ≤ 10) := by have := Pk.enc_ten (un_lt x.op); show (Pk.enc _).toArray.size ≤ 10; simpa using this
  generalize hA0 : (⟨(Pk.enc (Pg.un x.op)).toArray⟩ : ByteArray) = A0 at *
  have HA0 := hide hA0
  clear hA0
  obtain ⟨⟨z0, z1, z2⟩, zz⟩ := three_of HS2.out
  have hls : w1.heap.size < w2.heap.size := lt_of_block HS2.out
  clear hb2 HB1 HX1 x0 x1 x2 x3 x4 x5 xz
  have HR0 := hide (Rng.start w2 sf)
  have HXi : Hid ((w2.iter sf 0).heap[w.heap.size]? = some (.cells #[.int .i64 x.op, .int .i64 x.a, .int .i64 x.b, .int .i64 x.c, .int .i64 x.n, .int .u64 (x.k : Int)] 71 (0, 0))) := (Below.heap_alloc w2 _ _ (by omega)).trans HX2.out
  have HBi : Hid (Below w.heap.size w (w2.iter sf 0)) := HB2.out.alloc HB2.out.size _
  have HWs : Hid (w2.heap.size < (w2.iter sf 0).heap.size) := by show _ < (w2.alloc (.stringIter sf 0)).heap.size; simp
  go_wp2_with fail
  generalize w2.iter sf 0 = W0 at *
  go_loopw [5] (fun s wr => ∃ (k : Nat) (acc : ByteArray), k ≤ sf.size ∧ s = .string acc ∧ Hid (Rng W0 w2.heap.size sf k wr) ∧ Hid (Pg.goB x sf.data.toList A0 = Pg.goB x (sf.data.toList.drop k) acc) ∧ Hid (acc.size ≤ 10 + k * 102)) (fun _ wr => sf.size - wr.iterPos w2.heap.size)
  case atStart => exact ⟨0, A0, Nat.zero_le _, rfl, HR0, rfl, by have := HA.out; show A0.size ≤ _; omega⟩
  case round =>
    obtain ⟨k, acc, hk, rfl, HR, HE, HL⟩ := hrel
    have hIT : w.heap.size ≠ w2.heap.size := by omega
    by_cases hlt : k < sf.size
    · have hla : (sf[k]'hlt).toNat < 128 := HO.out.2.1 _ (at_mem sf k hlt)
      have hnx : ∀ ty, (Instr.next (.pointer (some ⟨w2.heap.size, 0, none⟩)) true ty).run Tryz.prog wr = _ := fun ty => Lib.run_next_ascii_at wr w2.heap.size sf k ty HR.out.it hlt hla
      have HE2 : Hid (Pg.goB x sf.data.toList A0 = Pg.goB x (sf.data.toList.drop (k + 1)) (acc ++ Pg.fieldB x (sf[k]'hlt).toNat)) := by
        refine HE.out.trans ?_
        rw [at_toList sf k hlt]
        rfl
      generalize (sf[k]'hlt).toNat = l at *
      have HR2 := hide (HR.out.next (k + 1))
      have HM : Hid (wr.iterPos w2.heap.size = k) := iterPos_of HR.out.it
      have HK3 : Hid (k < 3) := Nat.lt_of_lt_of_le hlt HO.out.1
      clear HR HE HR0
      generalize wr.iterAt w2.heap.size sf (k + 1) = wn at *
      obtain ⟨⟨x0, x1, x2, x3, x4, x5⟩, xz⟩ := six_of (HR2.out.blk HXi.out hIT)
      have HFL : Hid ((Pg.fieldB x l).size ≤ 10) := fieldB_len x hx l
      have hadd : ∀ w1 : World, (Op.stringOp .add acc (Pg.fieldB x l)).run Tryz.prog w1 = .ok (.string (acc ++ Pg.fieldB x l)) w1 := fun w1 =>
        run_string_add_sum w1 _ _ (by have := HFL.out; have := HL.out; have := HK3.out; omega)
      have HL2 : Hid ((acc ++ Pg.fieldB x l).size ≤ 10 + (k + 1) * 102) := by show _ ≤ _; rw [ByteArray.size_append]; have := HFL.out; have := HL.out; omega
      by_cases h75 : l = 75
      · subst h75
        have HPB := hide (pbits_any x.k hx wn)
        have e : Pg.fieldB x 75 = ⟨(Pk.big8 x.k).toArray⟩ := rfl
        rw [← e] at HPB
        generalize acc ++ Pg.fieldB x 75 = acc2 at *
        generalize Pg.fieldB x 75 = FB at *
        clear HFL HL e
        go_wp2_with fail
        refine HPB.out.mono ?_
        rintro e w3 ⟨rfl, hb3⟩
        have HR3 := hide (HR2.out.step hb3 (Nat.le_refl _))
        clear hb3 HR2 x0 x1 x2 x3 x4 x5 xz
        go_wp2
        go_roundw
        case rel => exact ⟨k + 1, _, by omega, rfl, HR3, HE2, HL2⟩
        case measure => rw [HM.out, iterPos_of HR3.out.it]; omega
      · have h75' : ((l : Int) == 75) = false := by simp; omega
        have HPN := hide (pnum_any (Pg.get x l) (get_lt x hx l))
        have e : Pg.fieldB x l = ⟨(Pk.enc (Pg.get x l)).toArray⟩ := by unfold Pg.fieldB; rw [if_neg h75]
        rw [← e] at HPN
        generalize acc ++ Pg.fieldB x l = acc2 at *
        generalize Pg.fieldB x l = FB at *
        clear HFL HL e
        go_wp2_with fail
        refine (get_any x l wn).mono ?_
        rintro e w3 ⟨rfl, hb3⟩
        have HR3 := hide (HR2.out.step hb3 (Nat.le_refl _))
        clear hb3 HR2 x0 x1 x2 x3 x4 x5 xz
        go_wp2_with fail
        refine (HPN.out w3).mono ?_
        rintro e w4 ⟨rfl, hb4⟩
        have HR4 := hide (HR3.out.step hb4 (Nat.le_refl _))
        clear hb4 HR3
        go_wp2
        go_roundw
        case rel => exact ⟨k + 1, _, by omega, rfl, HR4, HE2, HL2⟩
        case measure => rw [HM.out, iterPos_of HR4.out.it]; omega
    · obtain rfl : k = sf.size := by omega
      have hnx : ∀ ty, (Instr.next (.pointer (some ⟨w2.heap.size, 0, none⟩)) true ty).run Tryz.prog wr = _ := fun ty => Lib.run_next_end_at wr w2.heap.size sf sf.size ty HR.out.it (Nat.lt_irrefl _)
      have HE2 : Hid (Pg.goB x sf.data.toList A0 = acc) := by refine HE.out.trans ?_; rw [fin_toList]; rfl
      go_wp2
      go_ret
      exact ⟨by rw [HA0.out, HE2.out]; rfl, HR.out.below HBi.out (by omega) HBi.out.size⟩
set_option maxHeartbeats 1000000 in
theorem insText_any (x : In) (hx : x.k < 18446744073709551616) (w : World) (hT : Tabs w) :
    Calls Tryz.prog 23 #[.agg #[.int .i64 x.op, .int .i64 x.a, .int .i64 x.b, .int .i64 x.c, .int .i64 x.n, .int .u64 (x.k : Int)]] w fun e w' => e = .returned (.string (Pg.insT x)) ∧ Below w.heap.size w w' := by
  have HS := hide (shapeOf_any x.op)
  have HO := hide (Pg.shape_ok x.op)
  unfold Pg.insT
  generalize Pg.shape x.op = sh at *
  obtain ⟨⟨so, sw, sf⟩, sb⟩ := sh
  go_enter Tryz.func23, Tryz.ntmps23
  go_wp2_with fail
  refine (HS.out _).mono ?_
  rintro e w1 ⟨rfl, hb1⟩
  have hx1 : w1.heap[w.heap.size]? = some (.cells #[.int .i64 x.op, .int .i64 x.a, .int .i64 x.b, .int .i64 x.c, .int .i64 x.n, .int .u64 (x.k : Int)] 71 (0, 0)) := (hb1.block w.heap.size (by simp)).trans (heap_alloc_new w _)
  have HB1 : Hid (Below w.heap.size w w1) := (below_one w _).trans (hb1.mono (by simp))
  have HZ1 : Hid (w.heap.size + 1 ≤ w1.heap.size) := by have := hb1.size; rw [World.size_alloc] at this; exact this
  have HX1 := hide hx1
  obtain ⟨⟨x0, x1, x2, x3, x4, x5⟩, xz⟩ := six_of hx1
  have hlt1 : w.heap.size < w1.heap.size := lt_of_block hx1
  clear hb1 HS hx1
  have HT := hide hT
  clear hT
  obtain ⟨w2, hw2⟩ : ∃ u, u = w1.alloc (.cells #[.int .i64 so, .string sw, .string sf] 110) := ⟨_, rfl⟩
  have HB2 : Hid (Below w.heap.size w w2) := by rw [hw2]; exact HB1.out.alloc HB1.out.size _
  have HX2 : Hid (w2.heap[w.heap.size]? = some (.cells #[.int .i64 x.op, .int .i64 x.a, .int .i64 x.b, .int .i64 x.c, .int .i64 x.n, .int .u64 (x.k : Int)] 71 (0, 0))) := by rw [hw2]; exact (Below.heap_alloc w1 _ _ hlt1).trans HX1.out
  have HS2 : Hid (w2.heap[w1.heap.size]? = some (.cells #[.int .i64 so, .string sw, .string sf] 110 (0, 0))) := by rw [hw2]; exact heap_alloc_new w1 _
  have hls : w1.heap.size < w2.heap.size := lt_of_block HS2.out
  have hz2 : w2.heap.size = w1.heap.size + 1 := by rw [hw2]; simp
  have HW2 := hide hw2
  have HZ2 := hide hz2
  clear hw2 hz2 HB1 HX1
  have HR0 := hide (Rng.start w2 sf)
  have HXi : Hid ((w2.iter sf 0).heap[w.heap.size]? = some (.cells #[.int .i64 x.op, .int .i64 x.a, .int .i64 x.b, .int .i64 x.c, .int .i64 x.n, .int .u64 (x.k : Int)] 71 (0, 0))) := (Below.heap_alloc w2 _ _ (by omega)).trans HX2.out
  have HBi : Hid (Below w.heap.size w (w2.iter sf 0)) := HB2.out.alloc HB2.out.size _
  have HWs : Hid (w2.heap.size < (w2.iter sf 0).heap.size) := by show _ < (w2.alloc (.stringIter sf 0)).heap.size; simp
  go_wp2_with fail
  rw [← HW2.out, ← HZ2.out]
  generalize w2.iter sf 0 = W0 at *
  go_loopw [5] (fun s wr => ∃ (k : Nat) (acc : ByteArray), k ≤ sf.size ∧ s = .string acc ∧ Hid (Rng W0 w2.heap.size sf k wr) ∧ Hid (Pg.goT x sf.data.toList sw = Pg.goT x (sf.data.toList.drop k) acc) ∧ Hid (acc.size ≤ 10 + k * 102)) (fun _ wr => sf.size - wr.iterPos w2.heap.size)
  case atStart => exact ⟨0, sw, Nat.zero_le _, rfl, HR0, rfl, by have := HO.out.2.2; show sw.size ≤ _; omega⟩
  case round =>
    obtain ⟨k, acc, hk, rfl, HR, HE, HL⟩ := hrel
    have hIT : w.heap.size ≠ w2.heap.size := by omega
    by_cases hlt : k < sf.size
    · have hla : (sf[k]'hlt).toNat < 128 := HO.out.2.1 _ (at_mem sf k hlt)
      have hnx : ∀ ty, (Instr.next (.pointer (some ⟨w2.heap.size, 0, none⟩)) true ty).run Tryz.prog wr = _ := fun ty => Lib.run_next_ascii_at wr w2.heap.size sf k ty HR.out.it hlt hla
      have HE2 : Hid (Pg.goT x sf.data.toList sw = Pg.goT x (sf.data.toList.drop (k + 1)) (acc ++ ((⟨#[32]⟩ : ByteArray) ++ Pg.fieldT (sf[k]'hlt).toNat (Pg.get x (sf[k]'hlt).toNat)))) := by
        refine HE.out.trans ?_
        rw [at_toList sf k hlt]
        rfl
      generalize (sf[k]'hlt).toNat = l at *
      have HR2 := hide (HR.out.next (k + 1))
      have HM : Hid (wr.iterPos w2.heap.size = k) := iterPos_of HR.out.it
      have HK3 : Hid (k < 3) := Nat.lt_of_lt_of_le hlt HO.out.1
      clear HR HE HR0
      generalize wr.iterAt w2.heap.size sf (k + 1) = wn at *
      obtain ⟨⟨x0, x1, x2, x3, x4, x5⟩, xz⟩ := six_of (HR2.out.blk HXi.out hIT)
      have HFL : Hid (((⟨#[32]⟩ : ByteArray) ++ Pg.fieldT l (Pg.get x l)).size ≤ 102) := by show _ ≤ _; rw [ByteArray.size_append]; have := fieldT_len l _ (get_lt x hx l); show 1 + _ ≤ 102; omega
      have hadd1 : ∀ w1 : World, (Op.stringOp .add ⟨#[32]⟩ (Pg.fieldT l (Pg.get x l))).run Tryz.prog w1 = .ok (.string ((⟨#[32]⟩ : ByteArray) ++ Pg.fieldT l (Pg.get x l))) w1 := fun w1 =>
        run_string_add_sum w1 _ _ (by have := HFL.out; rw [ByteArray.size_append] at this; omega)
      have hadd : ∀ w1 : World, (Op.stringOp .add acc ((⟨#[32]⟩ : ByteArray) ++ Pg.fieldT l (Pg.get x l))).run Tryz.prog w1 = .ok (.string (acc ++ ((⟨#[32]⟩ : ByteArray) ++ Pg.fieldT l (Pg.get x l)))) w1 := fun w1 =>
        run_string_add_sum w1 _ _ (by have := HFL.out; have := HL.out; have := HK3.out; omega)
      have HL2 : Hid ((acc ++ ((⟨#[32]⟩ : ByteArray) ++ Pg.fieldT l (Pg.get x l))).size ≤ 10 + (k + 1) * 102) := by show _ ≤ _; rw [ByteArray.size_append]; have := HFL.out; have := HL.out; omega
      have HPN := hide (fieldText_any l (Pg.get x l) (get_lt x hx l))
      clear HFL HL
      generalize acc ++ ((⟨#[32]⟩ : ByteArray) ++ Pg.fieldT l (Pg.get x l)) = acc2 at *
      generalize (⟨#[32]⟩ : ByteArray) ++ Pg.fieldT l (Pg.get x l) = FB at *
      generalize Pg.fieldT l (Pg.get x l) = FT at *
      go_wp2_with fail
      refine (get_any x l wn).mono ?_
      rintro e w3 ⟨rfl, hb3⟩
      have HR3 := hide (HR2.out.step hb3 (Nat.le_refl _))
      clear hb3 HR2 x0 x1 x2 x3 x4 x5 xz
      go_wp2_with fail
      refine (HPN.out w3 (HT.out.below (HR3.out.below HBi.out (by omega) HBi.out.size) (Nat.le_refl _))).mono ?_
      rintro e w4 ⟨rfl, hb4⟩
      have HR4 := hide (HR3.out.step hb4 (Nat.le_refl _))
      clear hb4 HR3
      go_wp2
      go_roundw
      case rel => exact ⟨k + 1, _, by omega, rfl, HR4, HE2, HL2⟩
      case measure => rw [HM.out, iterPos_of HR4.out.it]; omega
    · obtain rfl : k = sf.size := by omega
      have hnx : ∀ ty, (Instr.next (.pointer (some ⟨w2.heap.size, 0, none⟩)) true ty).run Tryz.prog wr = _ := fun ty => Lib.run_next_end_at wr w2.heap.size sf sf.size ty HR.out.it (Nat.lt_irrefl _)
      have HE2 : Hid (Pg.goT x sf.data.toList sw = acc) := by refine HE.out.trans ?_; rw [fin_toList]; rfl
      go_wp2
      go_ret
      exact ⟨by rw [HE2.out]; rfl, HR.out.below HBi.out (by omega) HBi.out.size⟩
end Go.Proofs.YtpgehocadohkiaaGreatDoor
end

section
namespace Go.Proofs.YtpgehocadohkiaaGreatDoor
open Go.RowKit Go.Shelf

theorem ownsRowF_below {w w' : World} {base e size n m : Nat} {v : Value} {xs : List Value} (h : w.ownsRowF base e size v n xs) (hb : Below m w w') (hm : w.heap.size ≤ m) : w'.ownsRowF base e size v n xs := by
  refine ⟨h.1, ?_⟩
  rcases h.2 with hn | ⟨g, cap, cur, fz, hv, hbg, hg, rest⟩
  · exact .inl hn
  · exact .inr ⟨g, cap, cur, fz, hv, hbg, (hb.block g (Nat.lt_of_lt_of_le (lt_of_block hg) hm)).trans hg, rest⟩
theorem builder_below {T e B b m : Nat} {bs : List Value} {w w' : World} (h : Lib.IsBuilderF T e B b bs w) (hb : Below m w w') (hm : w.heap.size ≤ m) : Lib.IsBuilderF T e B b bs w' := by
  rcases h with ⟨hB, v, hv, hown, hne⟩ | ⟨hB, v, hv, hown, hne⟩
  · exact .inl ⟨hB, v, (hb.block b (Nat.lt_of_lt_of_le (lt_of_block hv) hm)).trans hv, ownsRowF_below hown hb hm, hne⟩
  · exact .inr ⟨hB, v, (hb.block b (Nat.lt_of_lt_of_le (lt_of_block hv) hm)).trans hv, ownsRowF_below hown hb hm, hne⟩
theorem builder_lt {T e B b : Nat} {bs : List Value} {w : World} (h : Lib.IsBuilderF T e B b bs w) : b < w.heap.size := by
  rcases h with ⟨_, v, hv, _⟩ | ⟨_, v, hv, _⟩ <;> exact lt_of_block hv
namespace Pg
def allB : List In → List UInt8 → List UInt8
  | [], acc => acc
  | x :: r, acc => allB r (acc ++ (insB x).data.toList)
def packB (fuel : Int) (xs : List In) : List UInt8 := allB xs (Pk.enc (un fuel) ++ Pk.enc (un xs.length))
def packS (fuel : Int) (xs : List In) : ByteArray := if (checkE fuel xs).1 = 0 then ⟨(packB fuel xs).toArray⟩ else ⟨#[]⟩
theorem goB_len (x : In) (hx : x.k < 18446744073709551616) : ∀ (l : List UInt8) (acc : ByteArray), (goB x l acc).size ≤ acc.size + 10 * l.length
  | [], acc => by simp [goB]
  | c :: r, acc => by
    unfold goB
    have h1 := goB_len x hx r (acc ++ fieldB x c.toNat)
    have h2 := fieldB_len x hx c.toNat
    rw [ByteArray.size_append] at h1
    simp only [List.length_cons]
    omega
theorem insB_len (x : In) (hx : x.k < 18446744073709551616) : (insB x).size ≤ 40 := by
  have h1 := goB_len x hx (shape x.op).1.flds.data.toList ⟨(Pk.enc (un x.op)).toArray⟩
  have h2 := (shape_ok x.op).1
  have h3 := Pk.enc_ten (un_lt x.op)
  have h4 : (shape x.op).1.flds.data.toList.length = (shape x.op).1.flds.size := by rw [Array.length_toList]; rfl
  have h5 : (⟨(Pk.enc (un x.op)).toArray⟩ : ByteArray).size ≤ 10 := by show (Pk.enc _).toArray.size ≤ 10; simpa using h3
  unfold insB
  omega
end Pg
theorem checkE_two (fuel : Int) (xs : List In) (h : (Pg.checkE fuel xs).1 = 0) : 1 ≤ fuel ∧ fuel ≤ 1024 ∧ 1 ≤ xs.length ∧ xs.length ≤ 64 := by
  unfold Pg.checkE at h
  split at h
  · cases h
  split at h
  · cases h
  omega
theorem allB_drop (xs : List In) (k : Nat) (h : k < xs.length) (acc : List UInt8) : Pg.allB (xs.drop k) acc = Pg.allB (xs.drop (k + 1)) (acc ++ (Pg.insB xs[k]!).data.toList) := by
  rw [List.drop_eq_getElem_cons h, getElem!_pos xs k h]
  rfl
theorem app_len {acc : List UInt8} {I : ByteArray} {A k c : Nat} (h1 : I.size ≤ c) (h2 : acc.length ≤ A + k * c) : (acc ++ I.data.toList).length ≤ A + (k + 1) * c := by
  have e : (acc ++ I.data.toList).length = acc.length + I.size := by rw [List.length_append, Array.length_toList]; rfl
  rw [e, Nat.add_mul]; omega
theorem pnum_wrap (u : Int) (w : World) : Calls Tryz.prog 19 #[.int .u64 (IntKind.u64.wrap u)] w fun e w' => e = .returned (.string ⟨(Pk.enc (Pg.un u)).toArray⟩) ∧ Below w.heap.size w w' := by
  rw [un_wrap]; exact pnum_any _ (un_lt u) w
set_option maxRecDepth 10000 in
set_option maxHeartbeats 400000 in
theorem pack_any (fuel : Int) (xs : List In) (hx : ∀ x ∈ xs, x.k < 18446744073709551616) (v : Value) (w : World) (h : Cd w v xs) :
    Calls Tryz.prog 5 #[.agg #[.int .i64 fuel, v]] w fun e w' => e = .returned (.tuple #[.string (Pg.packS fuel xs), .int .i64 (Pg.checkE fuel xs).1]) ∧ Below w.heap.size w w' := by
  have HC := hide (check_any fuel xs hx v)
  have H2 := hide (checkE_two fuel xs)
  have HCd := hide h
  obtain ⟨p, cap, rfl, h2⟩ := h
  have HP := hide h2
  clear h2
  unfold Pg.packS
  generalize Pg.checkE fuel xs = ce at *
  obtain ⟨E, at_⟩ := ce
  by_cases hE : E = 0
  · subst hE
    obtain ⟨hf1, hf2, hn1, hn2⟩ := H2.out rfl
    obtain ⟨b, off, rfl, hlt, hc⟩ := HP.out (by omega)
    have HCC := hide hc
    clear HP hc H2
    go_enter Tryz.func5, Tryz.ntmps5
    go_wp2_with fail
    refine (HC.out _ (HCd.out.below (below_one w _) (Nat.le_refl _))).mono ?_
    rintro e w1 ⟨rfl, hb1⟩
    have HB1 := hide hb1
    have hp : w1.heap[w.heap.size]? = some (.cells #[.int .i64 fuel, .slice (some ⟨b, off, none⟩) xs.length cap] 24 (0, 0)) := (hb1.block w.heap.size (by simp)).trans (heap_alloc_new w _)
    have hpc0 : w1.cell? ⟨w.heap.size, 0, none⟩ = some (.int .i64 fuel) := by simp [World.cell?, hp]
    have hpc1 : w1.cell? ⟨w.heap.size, 1, none⟩ = some (.slice (some ⟨b, off, none⟩) xs.length cap) := by simp [World.cell?, hp]
    have hpl : w.heap.size < w1.heap.size := lt_of_block hp
    have HPp := hide hp
    clear hb1 HC hp
    have hl1 := Pk.enc_ten (un_lt fuel)
    have hl2 := Pk.enc_ten (un_lt (xs.length : Int))
    have HL12 : Hid ((Pk.enc (Pg.un fuel) ++ Pk.enc (Pg.un (xs.length : Int))).length ≤ 20) := by show _ ≤ _; rw [List.length_append]; omega
    have hadd : ∀ w1 : World, (Op.stringOp .add ⟨(Pk.enc (Pg.un fuel)).toArray⟩ ⟨(Pk.enc (Pg.un (xs.length : Int))).toArray⟩).run Tryz.prog w1 = .ok (.string ⟨(Pk.enc (Pg.un fuel) ++ Pk.enc (Pg.un (xs.length : Int))).toArray⟩) w1 := fun w1 => by
      rw [run_string_add_sum w1 _ _ (by show (Pk.enc (Pg.un fuel)).toArray.size + (Pk.enc (Pg.un (xs.length : Int))).toArray.size ≤ _; simp; omega), ByteArray.mk_append_mk]
    have HBu : Hid (Lib.IsBuilderF 64 5 w1.heap.size w1.heap.size [] (w1.alloc (.cells #[.pointer none, .slice none 0 0] 64))) := Lib.IsBuilderF.of (Lib.fresh_isBuilder _ _ w1)
    have HW := hide (writeString_k w1.heap.size w1.heap.size [] ⟨(Pk.enc (Pg.un fuel) ++ Pk.enc (Pg.un (xs.length : Int))).toArray⟩)
    have HS1 : Hid ((⟨(Pk.enc (Pg.un fuel) ++ Pk.enc (Pg.un (xs.length : Int))).toArray⟩ : ByteArray).size ≤ 20) := by have := HL12.out; show (Pk.enc (Pg.un fuel) ++ Pk.enc (Pg.un (xs.length : Int))).toArray.size ≤ 20; rw [List.size_toArray]; exact this
    have HSd : Hid (Lib.strCells ⟨(Pk.enc (Pg.un fuel) ++ Pk.enc (Pg.un (xs.length : Int))).toArray⟩ = Lib.byteCells (Pk.enc (Pg.un fuel) ++ Pk.enc (Pg.un (xs.length : Int)))) := Lib.strCells_toArray _
    have HN1 : Hid (∀ w, Calls Tryz.prog 19 #[.int .u64 (IntKind.u64.wrap fuel)] w fun e w' => e = .returned (.string ⟨(Pk.enc (Pg.un fuel)).toArray⟩) ∧ Below w.heap.size w w') := pnum_wrap fuel
    have HN2 : Hid (∀ w, Calls Tryz.prog 19 #[.int .u64 (IntKind.u64.wrap (xs.length : Int))] w fun e w' => e = .returned (.string ⟨(Pk.enc (Pg.un (xs.length : Int))).toArray⟩) ∧ Below w.heap.size w w') := pnum_wrap (xs.length : Int)
    have hA0 : (w1.alloc (.cells #[.pointer none, .slice none 0 0] 64)).cell? ⟨w.heap.size, 0, none⟩ = some (.int .i64 fuel) := (World.cell?_alloc_past _ _ _ hpl).trans hpc0
    have hA1 : (w1.alloc (.cells #[.pointer none, .slice none 0 0] 64)).cell? ⟨w.heap.size, 1, none⟩ = some (.slice (some ⟨b, off, none⟩) xs.length cap) := (World.cell?_alloc_past _ _ _ hpl).trans hpc1
    have hAl : w.heap.size < (w1.alloc (.cells #[.pointer none, .slice none 0 0] 64)).heap.size := by simp; omega
    have HWz : Hid ((w1.alloc (.cells #[.pointer none, .slice none 0 0] 64)).heap.size = w1.heap.size + 1) := World.size_alloc _ _
    generalize (⟨(Pk.enc (Pg.un fuel) ++ Pk.enc (Pg.un (xs.length : Int))).toArray⟩ : ByteArray) = S1 at *
    generalize (⟨(Pk.enc (Pg.un fuel)).toArray⟩ : ByteArray) = S2 at *
    generalize (⟨(Pk.enc (Pg.un (xs.length : Int))).toArray⟩ : ByteArray) = S3 at *
    have HTok : Hid True := trivial
    go_wp2_with fail
    generalize hWB : w1.alloc (.cells #[.pointer none, .slice none 0 0] 64) = WB at *
    have HWB := hide hWB
    clear hWB hpc0 hpc1 hl1 hl2
    go_region_held3 (fun w' => w'.cell? ⟨w.heap.size, 0, none⟩ = some (.int .i64 fuel) ∧ w'.cell? ⟨w.heap.size, 1, none⟩ = some (.slice (some ⟨b, off, none⟩) xs.length cap)) (go_keep) (first
      | (go_at_call 19; clear HTok; refine (HN1.out _).mono ?_; rintro e w2 ⟨rfl, hb2⟩; have hX1 : w2.cell? ⟨w.heap.size, 0, none⟩ = some (.int .i64 fuel) := (hb2.cell (p := ⟨w.heap.size, 0, none⟩) hAl).trans hA0; have hY1 : w2.cell? ⟨w.heap.size, 1, none⟩ = some (.slice (some ⟨b, off, none⟩) xs.length cap) := (hb2.cell (p := ⟨w.heap.size, 1, none⟩) hAl).trans hA1; have HB2 := hide hb2; clear hb2)
      | (go_at_call 19; refine (HN2.out _).mono ?_; rintro e w3 ⟨rfl, hb3⟩; have hX2 : w3.cell? ⟨w.heap.size, 0, none⟩ = some (.int .i64 fuel) := (hb3.cell (World.block_lt_of_cell? _ _ hX1)).trans hX1; have hY2 : w3.cell? ⟨w.heap.size, 1, none⟩ = some (.slice (some ⟨b, off, none⟩) xs.length cap) := (hb3.cell (World.block_lt_of_cell? _ _ hY1)).trans hY1; have HB3 := hide hb3; clear hb3)
      | (go_at_call 18; refine (HW.out w3 (builder_below (builder_below (w := WB.drew) HBu.out HB2.out (Nat.le_refl _)) HB3.out (Nat.le_refl _)) (by have := HS1.out; simp; omega) (by have h1 := HB2.out.size; have h2 := HB3.out.size; have h3 := HWz.out; have h4 : WB.heap.size ≤ w2.heap.size := h1; omega)).mono ?_; rintro e w4 ⟨rfl, hbu4, hb4, _⟩; have hX3 : w4.cell? ⟨w.heap.size, 0, none⟩ = some (.int .i64 fuel) := (hb4.cell hpl).trans hX2; have hY3 : w4.cell? ⟨w.heap.size, 1, none⟩ = some (.slice (some ⟨b, off, none⟩) xs.length cap) := (hb4.cell hpl).trans hY2; have HBu4 := hide hbu4; have HB4 := hide hb4; clear hbu4 hb4))
    have HB14 : Hid (Below w1.heap.size w1 w4) := by
      have h1 : Below w1.heap.size w1 WB.drew := by rw [← HWB.out]; exact (below_one w1 _).drew
      have h2 : w1.heap.size ≤ WB.drew.heap.size := h1.size
      have h3 := HB2.out
      have h4 := h1.trans (h3.mono h2)
      exact (h4.trans (HB3.out.mono h4.size)).trans HB4.out
    have HBu5 : Hid (Lib.IsBuilderF 64 5 w1.heap.size w1.heap.size (Lib.byteCells (Pk.enc (Pg.un fuel) ++ Pk.enc (Pg.un (xs.length : Int)))) w4) := by
      have h := HBu4.out
      rw [List.nil_append, HSd.out] at h
      exact .inr h
    have HPk : Hid (Pg.packB fuel xs = Pg.allB xs (Pk.enc (Pg.un fuel) ++ Pk.enc (Pg.un (xs.length : Int)))) := (show Pg.packB fuel xs = _ from rfl)
    generalize Pk.enc (Pg.un fuel) ++ Pk.enc (Pg.un (xs.length : Int)) = A0 at *
    clear HBu4 HB4 HB3 HB2 hX1 hY1 hX2 hY2 HN1 HN2 HW HBu hA0 hA1 HS1 HSd hadd
    go_wp2_with fail
    go_loopw [31] (fun s wr => ∃ (k : Nat) (acc : List UInt8), k ≤ xs.length ∧ s = .int .i64 (k : Int) ∧ Hid (Lib.IsBuilderF 64 5 w1.heap.size w1.heap.size (Lib.byteCells acc) wr) ∧ Hid (Below w1.heap.size w1 wr) ∧ Hid (Pg.packB fuel xs = Pg.allB (xs.drop k) acc) ∧ Hid (acc.length ≤ 20 + k * 40)) (fun s _ => xs.length - (intOf s).toNat)
    case atStart => exact ⟨0, A0, Nat.zero_le _, rfl, HBu5, HB14, HPk, HL12⟩
    case round =>
      obtain ⟨k, acc, hk, rfl, HBu, HBw, HE, HL⟩ := hrel
      clear HBu5 HB14 HPk HL12
      by_cases hkl : k < xs.length
      · have hc : ∀ i u, (xs[k]!).cs[i]? = some u → wr.cell? ⟨b, off + k * 6 + i, none⟩ = some u := fun i u hi =>
          (HBw.out.cell (p := ⟨b, off + k * 6 + i, none⟩) (by show b < w1.heap.size; omega)).trans ((HB1.out.cell (p := ⟨b, off + k * 6 + i, none⟩) (by simp; omega)).trans ((World.cell?_alloc_past _ _ _ hlt).trans (HCC.out k hkl i u hi)))
        have c0 := hc 0 _ rfl
        have c1 := hc 1 _ rfl
        have c2 := hc 2 _ rfl
        have c3 := hc 3 _ rfl
        have c4 := hc 4 _ rfl
        have c5 := hc 5 _ rfl
        simp only [Nat.add_zero] at c0
        have hxk := hx xs[k]! (by rw [getElem!_pos xs k hkl]; exact List.getElem_mem hkl)
        have HI := hide (insBytes_any xs[k]! hxk)
        have HLi : Hid ((Pg.insB xs[k]!).size ≤ 40) := Pg.insB_len _ hxk
        have HE2 : Hid (Pg.packB fuel xs = Pg.allB (xs.drop (k + 1)) (acc ++ (Pg.insB xs[k]!).data.toList)) := HE.out.trans (allB_drop xs k hkl acc)
        generalize xs[k]! = x at *
        generalize Pg.insB x = I at *
        have hbl : b < wr.heap.size := by have := HBw.out.size; omega
        have hwl : w1.heap.size < wr.heap.size := builder_lt HBu.out
        have hki : (k : Int) < (xs.length : Int) := by omega
        clear hc hxk HE
        go_wp2_with fail
        refine (HI.out _).mono ?_
        rintro e w5 ⟨rfl, hb5⟩
        have HBu5 := hide (builder_below (HBu.out.alloc (.cells #[.int .i64 x.op, .int .i64 x.a, .int .i64 x.b, .int .i64 x.c, .int .i64 x.n, .int .u64 (x.k : Int)] 71)) hb5 (Nat.le_refl _))
        have HB5 : Hid (Below w1.heap.size w1 w5) := (HBw.out.alloc HBw.out.size _).trans (hb5.mono (by have := HBw.out.size; simp; omega))
        clear hb5 HBu HBw c0 c1 c2 c3 c4 c5
        go_wp2_with fail
        refine (writeString_k w1.heap.size w1.heap.size (Lib.byteCells acc) I w5 HBu5.out (by have := HLi.out; have := HL.out; rw [Lib.byteCells_length]; omega) HB5.out.size).mono ?_
        rintro e w6 ⟨rfl, hbu6, hb6, _⟩
        have HBu6 : Hid (Lib.IsBuilderF 64 5 w1.heap.size w1.heap.size (Lib.byteCells (acc ++ I.data.toList)) w6) := by
          rw [Lib.byteCells_append]
          exact .inr hbu6
        have HB6 : Hid (Below w1.heap.size w1 w6) := HB5.out.trans hb6
        clear hbu6 hb6 HBu5 HB5
        go_wp2
        go_roundw
        case rel => exact ⟨k + 1, _, by omega, by go_num, HBu6, HB6, HE2, app_len HLi.out HL.out⟩
        case measure => simp [intOf]; omega
      · obtain rfl : k = xs.length := by omega
        have hki : ¬ (xs.length : Int) < (xs.length : Int) := by omega
        have HE0 : Hid (Pg.packB fuel xs = acc) := by refine HE.out.trans ?_; rw [List.drop_length]; rfl
        clear HE
        go_wp2_with fail
        refine (Tryz.Builder_String_any_k w1.heap.size w1.heap.size acc wr HBu.out HBw.out.size).mono ?_
        rintro e w7 ⟨rfl, _, hb7, _⟩
        have HB7 : Hid (Below w.heap.size w w7) := ((below_one w _).trans (HB1.out.mono (by simp))).trans ((HBw.out.trans hb7).mono (by omega))
        clear hb7
        go_wp2
        go_ret2
        exact ⟨by rw [HE0.out]; rfl, HB7.out⟩
  · rw [if_neg hE]
    have hb : (E != 0) = true := by simp [hE]
    go_enter Tryz.func5, Tryz.ntmps5
    go_wp2_with fail
    refine (HC.out _ (HCd.out.below (below_one w _) (Nat.le_refl _))).mono ?_
    rintro e w1 ⟨rfl, hb1⟩
    have HB1 : Hid (Below w.heap.size w w1) := (below_one w _).trans (hb1.mono (by simp))
    clear hb1 HC
    go_wp2
    go_ret2
    exact ⟨rfl, HB1.out⟩
end Go.Proofs.YtpgehocadohkiaaGreatDoor
end
