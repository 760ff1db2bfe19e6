import Derived.Test.YtpgehocadohkiaaGreatDoorMgAU
import Derived.RangeFuncNested
import Derived.RangeFuncBound
import Derived.RangeFuncCalls
import Derived.RangeFuncLeaves
import Derived.Shelf.Abstract
import Derived.Shelf.RegionOpen
import Derived.OwnWalkIn
import Derived.TacticsInMore
import Derived.LoopNIn
import Derived.LoopIn
import Derived.Sort.QuietIn
import Derived.Test.YtpgehocadohkiaaGreatDoorMgAV

section
namespace Go.Proofs.YtpgehocadohkiaaGreatDoor
open Go.RowKit Go.Shelf

attribute [local go_sem] Oper.semAt_some

namespace Pg
def endL (s : ByteArray) : Nat := if Lib.indexByte s.data.toList 10 < 0 then s.size else (Lib.indexByte s.data.toList 10).toNat + 1
def linesG : Nat → ByteArray → List ByteArray
  | 0, _ => []
  | n + 1, s => s.extract 0 (endL s) :: (if (s.extract (endL s) s.size).size = 0 then [] else linesG n (s.extract (endL s) s.size))
def linesP (text : ByteArray) : List ByteArray := linesG (text.size + 1) text
end Pg
theorem endL_le (s : ByteArray) : Pg.endL s ≤ s.size ∧ (0 < s.size → 0 < Pg.endL s) := by
  unfold Pg.endL
  split
  · exact ⟨Nat.le_refl _, fun h => h⟩
  · have := idx_bound s 10 (by omega)
    exact ⟨by omega, fun _ => by omega⟩
/-- where the lines' iterator stands: so many are told, what is left -/
def At (LS : List ByteArray) (k : Nat) (t : ByteArray) : Prop := (1 ≤ k ∧ t.size = 0 ∧ LS.length = k) ∨ ((k = 0 ∨ 0 < t.size) ∧ ∃ n, t.size ≤ n ∧ LS.drop k = Pg.linesG (n + 1) t)
theorem at_size {LS : List ByteArray} {k : Nat} {t : ByteArray} (h : At LS k t) (hg : k = 0 ∨ 0 < t.size) : k < LS.length ∧ LS[k]! = t.extract 0 (Pg.endL t) ∧ At LS (k + 1) (t.extract (Pg.endL t) t.size) := by
  rcases h with ⟨h1, h2, _⟩ | ⟨_, n, hn, hd⟩
  · omega
  · have hk : k < LS.length := by
      rcases Nat.lt_or_ge k LS.length with h | h
      · exact h
      · rw [List.drop_eq_nil_of_le h] at hd; cases hd
    rw [List.drop_eq_getElem_cons hk, Pg.linesG] at hd
    injection hd with hd1 hd2
    refine ⟨hk, by rw [getElem!_pos LS k hk]; exact hd1, ?_⟩
    have hs := ByteArray.size_extract (a := t) (b := Pg.endL t) (e := t.size)
    have he := endL_le t
    by_cases h0 : (t.extract (Pg.endL t) t.size).size = 0
    · rw [if_pos h0] at hd2
      have hl : LS.length ≤ k + 1 := by
        have := congrArg List.length hd2
        rw [List.length_drop] at this
        simp at this
        omega
      exact .inl ⟨by omega, h0, by omega⟩
    · rw [if_neg h0] at hd2
      refine .inr ⟨.inr (by omega), ?_⟩
      cases n with
      | zero => exfalso; omega
      | succ m => exact ⟨m, by omega, hd2⟩
theorem at_done {LS : List ByteArray} {k : Nat} {t : ByteArray} (h : At LS k t) (hg : ¬ (k = 0 ∨ 0 < t.size)) : LS.length = k := by
  rcases h with ⟨_, _, h3⟩ | ⟨h1, _⟩
  · exact h3
  · exact absurd h1 hg
theorem ext_all (t : ByteArray) : t.extract 0 t.size = t := by
  apply ByteArray.ext
  rw [ByteArray.data_extract]
  exact Array.extract_eq_self_of_le (Nat.le_refl _)
theorem ext_none (t : ByteArray) : t.extract t.size t.size = ByteArray.empty := by
  apply ByteArray.ext
  rw [ByteArray.data_extract]
  exact Array.extract_empty_of_stop_le_start (Nat.le_refl _)
theorem at_start (t : ByteArray) : At (Pg.linesP t) 0 t := .inr ⟨.inl rfl, t.size, Nat.le_refl _, rfl⟩

set_option maxHeartbeats 1000000 in
theorem lines_in (n : Nat) (text : ByteArray) (w : World) :
    CallsIn Fence.wide n Tryz.prog 24 #[.string text] w fun e w' => e = .returned (.func (.func 44) #[] #[.pointer (some ⟨w.heap.size, 0, none⟩)]) ∧ w' = w.alloc (.cells #[.string text] 9) := by
  refine callsIn_of_wp Tryz.func24 rfl trivial ?_ rfl
  simp only [Tryz.ntmps24, List.size_toArray, List.length_cons, List.length_nil, Nat.reduceAdd, Nat.reduceSub, Array.replicate_succ, Array.replicate_zero, List.push_toArray, List.append_toArray, List.nil_append, List.cons_append]
  gi_wp2
  go_ret
  exact ⟨rfl, rfl⟩

set_option maxRecDepth 100000 in
set_option maxHeartbeats 2000000 in
theorem lines1_in (n : Nat) (hn : 1 ≤ n) (l TB : Nat) (text : ByteArray) (hts : text.size ≤ 4611686018427387904) (J Jx : List Nat → World → Prop) (W : World)
    (hY : ∀ (pre : List Nat) (x : Nat) (W1 : World), J pre W1 → pre.length < (Pg.linesP text).length → YieldAt Fence.wide (n - 1) Tryz.prog l #[.int .i64 ((x : Int) + 1), .string (Pg.linesP text)[x]!] W1 fun e W' =>
      (e = .returned (.bool true) ∧ J (pre ++ [x]) W' ∧ True) ∨ (e = .returned (.bool false) ∧ Jx (pre ++ [x]) W'))
    (hTB : W.cell? ⟨TB, 0, none⟩ = some (.string text)) (h0 : J [] W) :
    CallsIn Fence.wide n Tryz.prog 44 #[.func (.yield l) #[] #[], .pointer (some ⟨TB, 0, none⟩)] W fun e W' => (∃ v, e = .returned v) ∧
      ((∃ ys, ys = List.range (Pg.linesP text).length ∧ J ys W') ∨ (∃ pre, (∃ k, k ≤ (Pg.linesP text).length ∧ pre = List.range k) ∧ Jx pre W')) := by
  have HAs := hide (at_start text)
  generalize Pg.linesP text = LS at *
  refine callsIn_of_wp Tryz.func44 rfl trivial ?_ rfl
  simp only [Tryz.ntmps44, List.size_toArray, List.length_cons, List.length_nil, Nat.reduceAdd, Nat.reduceSub, Array.replicate_succ, Array.replicate_zero, List.push_toArray, List.append_toArray, List.nil_append, List.cons_append]
  have HY := hide hY
  have HJ0 := hide h0
  clear hY h0
  gi_wp2_with fail
  gi_loopw [3, 4] (fun s3 s4 wr => ∃ (k : Nat) (t : ByteArray), s3 = .string t ∧ s4 = .int .i64 ((k : Int) + 1) ∧ k ≤ LS.length ∧ t.size ≤ text.size ∧ (k : Int) ≤ (text.size : Int) + 1 ∧ Hid (k + t.size ≤ text.size + 1) ∧ Hid (At LS k t) ∧ Hid (J (List.range k) wr)) (fun _ s4 _ => LS.length + 1 - (intOf s4).toNat)
  case atStart => exact ⟨0, text, rfl, rfl, Nat.zero_le _, Nat.le_refl _, by omega, by show _ ≤ _; omega, HAs, HJ0⟩
  case round =>
    obtain ⟨k, t, rfl, rfl, hk, hts2, hk3, HKT, HA, HJ⟩ := hrel
    clear HJ0 HAs
    by_cases hg : k = 0 ∨ 0 < t.size
    · obtain ⟨hkl, hline, hnext⟩ := at_size HA.out hg
      obtain ⟨fn, tmps, assign, body, hy, hR⟩ := HY.out (List.range k) k wr HJ.out (by rw [List.length_range]; exact hkl)
      rw [hline] at hy
      have HR := hide hR
      have HN := hide hnext
      have he := endL_le t
      clear hR hnext hline HA
      have HIx : Hid (Calls Tryz.prog 45 #[.string t, .int .u8 10] wr fun e w' => e = .returned (.int .i64 (Lib.indexByte t.data.toList 10)) ∧ w' = wr) := Tryz.strings_IndexByte t 10 wr
      by_cases hk0 : k = 0
      · subst hk0
        rw [show (((0 : Nat) : Int) + 1) = 1 from rfl] at hy
        by_cases hneg : Lib.indexByte t.data.toList 10 < 0
        · have hm1 : Lib.indexByte t.data.toList 10 = -1 := by have := Lib.indexByte_ge t.data.toList 10; omega
          rw [hm1] at HIx
          have heL : Pg.endL t = t.size := by unfold Pg.endL; rw [if_pos (by omega)]
          rw [heL] at hy HN he
          rw [ext_all] at hy
          rw [ext_none] at HN
          clear hm1 heL hneg
          gi_wp2_with fail
          refine ⟨trivial, (callsIn_wide.2 HIx.out).mono ?_⟩
          rintro e w' ⟨rfl, rfl⟩
          gi_wp2_with fail
          refine HR.out.mono ?_
          rintro e W3 (⟨rfl, hJ3, _⟩ | ⟨rfl, hJx3⟩)
          · have hJ3' : Hid (J (List.range (0 + 1)) W3) := by rw [List.range_succ]; exact hJ3
            clear hJ3 HJ hy HR
            gi_wp2
            go_roundw
            case rel => exact ⟨0 + 1, _, rfl, by go_num, by omega, Nat.zero_le _, by have := HKT.out; omega, by have := HKT.out; show _ + 1 + 0 ≤ _; omega, HN, hJ3'⟩
            case measure => simp [intOf]; omega
          · have HX : Hid (Jx (List.range (0 + 1)) W3) := by rw [List.range_succ]; exact hJx3
            clear hJx3
            gi_wp2
            refine bodyPost_ret (results_none rfl _ _ _) rfl ?_
            exact ⟨⟨_, rfl⟩, .inr ⟨_, ⟨0 + 1, by omega, rfl⟩, HX.out⟩⟩
        · obtain ⟨m, hm⟩ : ∃ m : Nat, Lib.indexByte t.data.toList 10 = (m : Int) := ⟨(Lib.indexByte t.data.toList 10).toNat, by omega⟩
          have hib := idx_bound t 10 (by omega)
          have heL : Pg.endL t = m + 1 := by unfold Pg.endL; rw [if_neg hneg, hm]; rfl
          rw [hm] at HIx hib
          rw [Int.toNat_natCast] at hib
          rw [heL] at hy HN he
          have hm1 : ((m : Int) + 1 == 0) = false := beq_eq_false_iff_ne.2 (by omega)
          clear hm heL hneg
          gi_wp2_with fail
          refine ⟨trivial, (callsIn_wide.2 HIx.out).mono ?_⟩
          rintro e w' ⟨rfl, rfl⟩
          gi_wp2_with fail
          refine HR.out.mono ?_
          rintro e W3 (⟨rfl, hJ3, _⟩ | ⟨rfl, hJx3⟩)
          · have hJ3' : Hid (J (List.range (0 + 1)) W3) := by rw [List.range_succ]; exact hJ3
            clear hJ3 HJ hy HR
            gi_wp2
            go_roundw
            case rel => exact ⟨0 + 1, _, rfl, by go_num, by omega, by rw [ByteArray.size_extract]; omega, by have := HKT.out; omega, by have := HKT.out; show _ ≤ _; rw [ByteArray.size_extract]; omega, HN, hJ3'⟩
            case measure => simp [intOf]; omega
          · have HX : Hid (Jx (List.range (0 + 1)) W3) := by rw [List.range_succ]; exact hJx3
            clear hJx3
            gi_wp2
            refine bodyPost_ret (results_none rfl _ _ _) rfl ?_
            exact ⟨⟨_, rfl⟩, .inr ⟨_, ⟨0 + 1, by omega, rfl⟩, HX.out⟩⟩
      · have hb1 : ((k : Int) + 1 == 1) = false := beq_eq_false_iff_ne.2 (by omega)
        have htp : 0 < t.size := by omega
        have htl : (t.toList == []) = false := by
          rw [beq_eq_false_iff_ne]
          intro e
          have h2 : t.toList.length = 0 := by rw [e]; rfl
          rw [size_list] at h2
          omega
        have htl2 : (t.toList != []) = true := by rw [bne, htl]; rfl
        by_cases hneg : Lib.indexByte t.data.toList 10 < 0
        · have hm1 : Lib.indexByte t.data.toList 10 = -1 := by have := Lib.indexByte_ge t.data.toList 10; omega
          rw [hm1] at HIx
          have heL : Pg.endL t = t.size := by unfold Pg.endL; rw [if_pos (by omega)]
          rw [heL] at hy HN he
          rw [ext_all] at hy
          rw [ext_none] at HN
          clear hm1 heL hneg
          gi_wp2_with fail
          refine ⟨trivial, (callsIn_wide.2 HIx.out).mono ?_⟩
          rintro e w' ⟨rfl, rfl⟩
          gi_wp2_with fail
          refine HR.out.mono ?_
          rintro e W3 (⟨rfl, hJ3, _⟩ | ⟨rfl, hJx3⟩)
          · have hJ3' : Hid (J (List.range (k + 1)) W3) := by rw [List.range_succ]; exact hJ3
            clear hJ3 HJ hy HR
            gi_wp2
            go_roundw
            case rel => exact ⟨k + 1, _, rfl, by go_num, by omega, Nat.zero_le _, by have := HKT.out; omega, by have := HKT.out; show _ + 1 + 0 ≤ _; omega, HN, hJ3'⟩
            case measure => simp [intOf]; omega
          · have HX : Hid (Jx (List.range (k + 1)) W3) := by rw [List.range_succ]; exact hJx3
            clear hJx3
            gi_wp2
            refine bodyPost_ret (results_none rfl _ _ _) rfl ?_
            exact ⟨⟨_, rfl⟩, .inr ⟨_, ⟨k + 1, by omega, rfl⟩, HX.out⟩⟩
        · obtain ⟨m, hm⟩ : ∃ m : Nat, Lib.indexByte t.data.toList 10 = (m : Int) := ⟨(Lib.indexByte t.data.toList 10).toNat, by omega⟩
          have hib := idx_bound t 10 (by omega)
          have heL : Pg.endL t = m + 1 := by unfold Pg.endL; rw [if_neg hneg, hm]; rfl
          rw [hm] at HIx hib
          rw [Int.toNat_natCast] at hib
          rw [heL] at hy HN he
          have hm1 : ((m : Int) + 1 == 0) = false := beq_eq_false_iff_ne.2 (by omega)
          clear hm heL hneg
          gi_wp2_with fail
          refine ⟨trivial, (callsIn_wide.2 HIx.out).mono ?_⟩
          rintro e w' ⟨rfl, rfl⟩
          gi_wp2_with fail
          refine HR.out.mono ?_
          rintro e W3 (⟨rfl, hJ3, _⟩ | ⟨rfl, hJx3⟩)
          · have hJ3' : Hid (J (List.range (k + 1)) W3) := by rw [List.range_succ]; exact hJ3
            clear hJ3 HJ hy HR
            gi_wp2
            go_roundw
            case rel => exact ⟨k + 1, _, rfl, by go_num, by omega, by rw [ByteArray.size_extract]; omega, by have := HKT.out; omega, by have := HKT.out; show _ ≤ _; rw [ByteArray.size_extract]; omega, HN, hJ3'⟩
            case measure => simp [intOf]; omega
          · have HX : Hid (Jx (List.range (k + 1)) W3) := by rw [List.range_succ]; exact hJx3
            clear hJx3
            gi_wp2
            refine bodyPost_ret (results_none rfl _ _ _) rfl ?_
            exact ⟨⟨_, rfl⟩, .inr ⟨_, ⟨k + 1, by omega, rfl⟩, HX.out⟩⟩
    · have hkd := at_done HA.out hg
      have ht0 : t.size = 0 := by omega
      have hk1 : 1 ≤ k := by omega
      have htl : t = ⟨#[]⟩ := by
        apply ByteArray.ext
        exact Array.eq_empty_of_size_eq_zero ht0
      subst htl
      have hb1 : ((k : Int) + 1 == 1) = false := beq_eq_false_iff_ne.2 (by omega)
      gi_wp2
      go_end0
      exact ⟨⟨_, rfl⟩, .inl ⟨_, rfl, by rw [hkd]; exact HJ.out⟩⟩
end Go.Proofs.YtpgehocadohkiaaGreatDoor
end

section
namespace Go.Proofs.YtpgehocadohkiaaGreatDoor
open Go.RowKit Go.Shelf

attribute [local go_sem] Oper.semAt_some

namespace Pg
/-- the program behind so many lines -/
def stP (LS : List ByteArray) : Nat → Int × List In
  | 0 => (0, [])
  | k + 1 => (lineP (k + 1) LS[k]! (stP LS k).1 (stP LS k).2).1
def okP (LS : List ByteArray) (k : Nat) : Bool := (lineP (k + 1) LS[k]! (stP LS k).1 (stP LS k).2).2
def lineOfP (e at_ : Int) : Int := if e = 56 then 1 else if e = 50 then 0 else at_ + 2
def parseS (text : ByteArray) : (Int × List In) × (Int × Int) := match (List.range (linesP text).length).find? (fun k => !okP (linesP text) k) with
  | some k => ((0, []), (55, (k : Int) + 1))
  | none => if (checkE (stP (linesP text) (linesP text).length).1 (stP (linesP text) (linesP text).length).2).1 ≠ 0
      then ((0, []), ((checkE (stP (linesP text) (linesP text).length).1 (stP (linesP text) (linesP text).length).2).1, lineOfP (checkE (stP (linesP text) (linesP text).length).1 (stP (linesP text) (linesP text).length).2).1 (checkE (stP (linesP text) (linesP text).length).1 (stP (linesP text) (linesP text).length).2).2))
      else (stP (linesP text) (linesP text).length, (0, 0))
theorem setF_k (x : In) (l v : Nat) (h : x.k < 18446744073709551616) (hv : v < 18446744073709551616) : (setF x l v).k < 18446744073709551616 := by
  unfold setF
  repeat' split
  all_goals first | exact h | exact hv
theorem fieldP_k (l : Nat) (s : ByteArray) : (fieldP l s).2 = true → (fieldP l s).1 < 18446744073709551616 := by
  intro h
  by_cases h75 : l = 75
  · subst h75
    unfold fieldP at *
    rw [if_pos rfl] at *
    exact (parse_back (by simpa using h)).1
  · have := (fieldP_lt l s).resolve_left h75
    omega
theorem goP_k (ws : List ByteArray) : ∀ (l : List UInt8) (i : Nat) (x : In), x.k < 18446744073709551616 → (goP ws l i x).1.k < 18446744073709551616
  | [], _, x, h => h
  | c :: r, i, x, h => by
    unfold goP
    split
    · exact (by decide : (0 : Nat) < 18446744073709551616)
    · rename_i hf
      exact goP_k ws r (i + 1) _ (setF_k x _ _ h (fieldP_k _ _ (by simpa using hf)))
theorem insP_k (line : ByteArray) : (insP line).1.k < 18446744073709551616 := by
  unfold insP
  split
  · exact (by decide : (0 : Nat) < 18446744073709551616)
  · exact goP_k _ _ _ _ (by decide : (0 : Nat) < 18446744073709551616)
theorem lineP_le (number : Nat) (line : ByteArray) (f : Int) (xs : List In) (h : xs.length ≤ 65) (hk : ∀ x ∈ xs, x.k < 18446744073709551616) : (lineP number line f xs).1.2.length ≤ 65 ∧ ∀ x ∈ (lineP number line f xs).1.2, x.k < 18446744073709551616 := by
  unfold lineP
  split
  · exact ⟨h, hk⟩
  split
  · exact ⟨h, hk⟩
  · show (addP _ _).length ≤ 65 ∧ ∀ x ∈ addP _ _, _
    unfold addP
    split
    · rename_i h2
      refine ⟨by rw [List.length_append]; simp only [List.length_singleton]; omega, fun x hx => ?_⟩
      rcases List.mem_append.1 hx with hx | hx
      · exact hk x hx
      · rw [List.mem_singleton.1 hx]; exact insP_k _
    · exact ⟨h, hk⟩
theorem linesG_size : ∀ (n : Nat) (s : ByteArray), ∀ x ∈ linesG n s, x.size ≤ s.size
  | 0, _, x, h => by cases h
  | n + 1, s, x, h => by
    unfold linesG at h
    rcases List.mem_cons.1 h with rfl | h
    · rw [ByteArray.size_extract]; omega
    · split at h
      · cases h
      · have := linesG_size n _ x h
        rw [ByteArray.size_extract] at this
        omega
theorem lines_size (text : ByteArray) (k : Nat) : ((linesP text)[k]!).size ≤ text.size := by
  by_cases h : k < (linesP text).length
  · rw [getElem!_pos _ k h]
    exact linesG_size _ _ _ (List.getElem_mem h)
  · rw [getElem!_neg _ k h]
    exact Nat.zero_le _
end Pg
theorem lineOf_any (e at_ : Int) (h1 : 0 ≤ at_) (h2 : at_ ≤ 1000) (w : World) : Calls Tryz.prog 26 #[.int .i64 e, .int .i64 at_] w fun r w' => r = .returned (.int .i64 (Pg.lineOfP e at_)) ∧ w' = w := by
  unfold Pg.lineOfP
  by_cases h56 : e = 56
  · subst h56
    go_enter Tryz.func26, Tryz.ntmps26
    go_wp2
    go_ret
    exact ⟨rfl, rfl⟩
  rw [if_neg h56]
  have b1 : (e == 56) = false := beq_eq_false_iff_ne.2 h56
  by_cases h50 : e = 50
  · subst h50
    go_enter Tryz.func26, Tryz.ntmps26
    go_wp2
    go_ret
    exact ⟨rfl, rfl⟩
  rw [if_neg h50]
  have b2 : (e == 50) = false := beq_eq_false_iff_ne.2 h50
  go_enter Tryz.func26, Tryz.ntmps26
  go_wp2
  go_ret
  exact ⟨rfl, rfl⟩
theorem goE_le (many : Nat) : ∀ (xs : List In) (i : Nat), 0 ≤ (Pg.goE many xs i).2 ∧ (Pg.goE many xs i).2 ≤ (i : Int) + xs.length
  | [], i => ⟨Int.le_refl _, by simp [Pg.goE]⟩
  | x :: r, i => by
    unfold Pg.goE
    split
    · exact ⟨by show (0 : Int) ≤ (i : Int); omega, by show (i : Int) ≤ _; rw [List.length_cons]; omega⟩
    · have := goE_le many r (i + 1)
      rw [List.length_cons]
      omega
theorem checkE_le (f : Int) (xs : List In) : 0 ≤ (Pg.checkE f xs).2 ∧ (Pg.checkE f xs).2 ≤ 64 := by
  unfold Pg.checkE
  split
  · exact ⟨Int.le_refl _, by decide⟩
  split
  · exact ⟨Int.le_refl _, by decide⟩
  · have := goE_le xs.length xs 0
    omega
theorem cells_own {W W' : World} {row : Option Nat} {k : Nat} {cs : Array Value} {t : TypeId} {fz : Nat × Nat} (h : W.heap[k]? = some (.cells cs t fz)) (hg : W.grownBy W' row) (hr : ∀ r, row = some r → ∃ o : Obj, W.heap[r]? = some o ∧ o.isCells = false) : W'.heap[k]? = some (.cells cs t fz) := by
  refine (hg.block k (lt_of_block h) (fun e => ?_)).trans h
  obtain ⟨o, ho, hc⟩ := hr k e.symm
  rw [h] at ho
  cases ho
  cases hc
theorem prg_own {W W' : World} {row : Option Nat} {base P : Nat} {f : Int} {v : Value} {xs : List In} (h : Prg base P W f v xs) (hg : W.grownBy W' row) (hr : ∀ r, row = some r → ∃ o : Obj, W.heap[r]? = some o ∧ o.isCells = false) : Prg base P W' f v xs := by
  refine ⟨cells_own h.blk hg hr, ?_, h.apt, h.low⟩
  refine ⟨h.row.1, ?_⟩
  rcases h.row.2 with h1 | ⟨k, cap, cur, rfl, hb, hgk, h2⟩
  · exact .inl h1
  · exact .inr ⟨k, cap, cur, rfl, hb, cells_own hgk hg hr, h2⟩
theorem mp_keeps {P base : Nat} {v v' : Value} {w w' : World} {f : Int} {xs : List In} (h : Mp P v v' w w') (hp : Prg base P w f v xs) : KeepsOthers w w' :=
  ⟨h.size, fun k o hk ho => (h.block k (lt_of_block hk) (fun hf => by
    rcases hf with rfl | hf
    · rw [show w.heap[k]? = _ from hp.blk] at hk; cases hk; cases ho
    · rcases hp.row.2 with ⟨h1, _⟩ | ⟨g, cap, cur, rfl, _, hg, _⟩
      · rw [h1] at hf; cases hf
      · simp only [Value.ownBlock] at hf; injection hf with hf; subst hf; rw [hg] at hk; cases hk; cases ho)).trans hk⟩
/-- where the range over the lines stands -/
structure Ln (w : World) (LS : List ByteArray) (pre : List Nat) (W : World) : Prop where
  st : ∃ f v xs, Prg w.heap.size (w.heap.size + 3) W f v xs ∧ xs.length ≤ 65 ∧ (∀ x ∈ xs, x.k < 18446744073709551616) ∧ (pre = List.range pre.length → (f, xs) = Pg.stP LS pre.length ∧ ∀ k, k < pre.length → Pg.okP LS k = true)
  z0 : Pb W w.heap.size 0 (.slice none 0 0)
  z1 : Boxed W (w.heap.size + 1) 33 (.int .i64 0)
  z2 : Boxed W (w.heap.size + 2) 3 (.int .i64 0)
  low : Below w.heap.size w W
structure Lx (w : World) (LS : List ByteArray) (c : Code) (pre : List Nat) (W : World) : Prop where
  ret : c = .ret
  st : ∃ x : Nat, Boxed W (w.heap.size + 2) 3 (.int .i64 ((x : Int) + 1)) ∧ (pre = List.range pre.length → pre.length = x + 1 ∧ Pg.okP LS x = false ∧ ∀ k, k < x → Pg.okP LS k = true)
  z0 : Pb W w.heap.size 0 (.slice none 0 0)
  z1 : Boxed W (w.heap.size + 1) 33 (.int .i64 55)
  low : Below w.heap.size w W
theorem ln_own (w : World) (LS : List ByteArray) (B : Nat) (hB : w.heap.size ≤ B) : OwnFrom B (Ln w LS) := fun pre W W' row h hg hr => by
  have hr' : ∀ r, row = some r → ∃ o : Obj, W.heap[r]? = some o ∧ o.isCells = false := fun r e => (hr r e).2
  obtain ⟨f, v, xs, h1, h2⟩ := h.st
  exact ⟨⟨f, v, xs, prg_own h1 hg hr', h2⟩, cells_own h.z0 hg hr', cells_own h.z1 hg hr', cells_own h.z2 hg hr', h.low.grown hg h.low.size (fun k hk => by have := (hr k hk).1; omega)⟩
theorem lx_own (w : World) (LS : List ByteArray) (c : Code) (B : Nat) (hB : w.heap.size ≤ B) : OwnFrom B (Lx w LS c) := fun pre W W' row h hg hr => by
  have hr' : ∀ r, row = some r → ∃ o : Obj, W.heap[r]? = some o ∧ o.isCells = false := fun r e => (hr r e).2
  obtain ⟨x, h1, h2⟩ := h.st
  exact ⟨h.ret, ⟨x, cells_own h1 hg hr', h2⟩, cells_own h.z0 hg hr', cells_own h.z1 hg hr', h.low.grown hg h.low.size (fun k hk => by have := (hr k hk).1; omega)⟩
/-- a line -/
def lnAt (LS : List ByteArray) (x : Nat) : ByteArray := LS[x]!
theorem lines_stops (n : Nat) (hn : 1 ≤ n) (TB : Nat) (text : ByteArray) (hts : text.size ≤ 4611686018427387904) (w : World) (hTl : TB < w.heap.size) (hTB : w.cell? ⟨TB, 0, none⟩ = some (.string text)) :
    SeqStopsK Fence.wide n Tryz.prog 44 #[.pointer (some ⟨TB, 0, none⟩)] (fun x : Nat => #[Value.int .i64 ((x : Int) + 1), .string (lnAt (Pg.linesP text) x)]) (fun _ _ => True) (fun ys => ys = List.range (Pg.linesP text).length) (fun pre => ∃ k, k ≤ (Pg.linesP text).length ∧ pre = List.range k) (Pg.linesP text).length w := fun l J Jx W hW _ _ hY h0 =>
  lines1_in n hn l TB text hts J Jx W hY ((hW.cell (p := ⟨TB, 0, none⟩) hTl).trans hTB) h0
end Go.Proofs.YtpgehocadohkiaaGreatDoor
end

section
namespace Go.Proofs.YtpgehocadohkiaaGreatDoor
open Go.RowKit Go.Shelf

attribute [local go_sem] Oper.semAt_some

theorem five (w : World) (a b c d e : Obj) : (((((w.alloc a).alloc b).alloc c).alloc d).alloc e).heap[w.heap.size]? = some a ∧ (((((w.alloc a).alloc b).alloc c).alloc d).alloc e).heap[w.heap.size + 1]? = some b ∧ (((((w.alloc a).alloc b).alloc c).alloc d).alloc e).heap[w.heap.size + 2]? = some c ∧ (((((w.alloc a).alloc b).alloc c).alloc d).alloc e).heap[w.heap.size + 3]? = some d ∧ (((((w.alloc a).alloc b).alloc c).alloc d).alloc e).heap[w.heap.size + 4]? = some e := by
  have s1 : (w.alloc a).heap.size = w.heap.size + 1 := World.size_alloc _ _
  have s2 : ((w.alloc a).alloc b).heap.size = w.heap.size + 2 := by rw [World.size_alloc, s1]
  have s3 : (((w.alloc a).alloc b).alloc c).heap.size = w.heap.size + 3 := by rw [World.size_alloc, s2]
  have s4 : ((((w.alloc a).alloc b).alloc c).alloc d).heap.size = w.heap.size + 4 := by rw [World.size_alloc, s3]
  have n0 := heap_alloc_new w a
  have n1 := heap_alloc_new (w.alloc a) b
  have n2 := heap_alloc_new ((w.alloc a).alloc b) c
  have n3 := heap_alloc_new (((w.alloc a).alloc b).alloc c) d
  have n4 := heap_alloc_new ((((w.alloc a).alloc b).alloc c).alloc d) e
  rw [s1] at n1
  rw [s2] at n2
  rw [s3] at n3
  rw [s4] at n4
  refine ⟨?_, ?_, ?_, ?_, n4⟩
  · rw [Below.heap_alloc _ e _ (by omega), Below.heap_alloc _ d _ (by omega), Below.heap_alloc _ c _ (by omega), Below.heap_alloc _ b _ (by omega)]; exact n0
  · rw [Below.heap_alloc _ e _ (by omega), Below.heap_alloc _ d _ (by omega), Below.heap_alloc _ c _ (by omega)]; exact n1
  · rw [Below.heap_alloc _ e _ (by omega), Below.heap_alloc _ d _ (by omega)]; exact n2
  · rw [Below.heap_alloc _ e _ (by omega)]; exact n3
set_option maxRecDepth 100000 in
set_option maxHeartbeats 2000000 in
theorem parseText_any (text : ByteArray) (hts : text.size ≤ 4611686018427387904) (w : World) (hT : Libs w) :
    Calls Tryz.prog 8 #[.string text] w fun e w' => ∃ v, e = .returned (.tuple #[.agg #[.int .i64 (Pg.parseS text).1.1, v], .int .i64 (Pg.parseS text).2.1, .int .i64 (Pg.parseS text).2.2]) ∧ w'.ownsRow w.heap.size 71 6 v (Pg.parseS text).1.2.length (Pg.flat (Pg.parseS text).1.2) ∧ Below w.heap.size w w' := by
  refine (callsIn_wide (n := 6)).1 ?_
  refine callsIn_of_wp_marks Tryz.func8 rfl trivial ?_ rfl
  simp only [Tryz.ntmps8, List.size_toArray, List.length_cons, List.length_nil, Nat.reduceAdd, Nat.reduceSub, Array.replicate_succ, Array.replicate_zero, List.push_toArray, List.append_toArray, List.nil_append, List.cons_append]
  have HT := hide hT
  clear hT
  gi_wp2_with fail
  refine ⟨trivial, (lines_in _ text _).mono ?_⟩
  rintro e w' ⟨rfl, rfl⟩
  gi_wp2_with fail
  simp only [Nat.add_assoc, Nat.reduceAdd]
  have HZ0 : Hid (Pb (((((w.alloc (.cells #[.int .i64 0, .slice none 0 0] 24)).alloc (.cells #[.int .i64 0] 33)).alloc (.cells #[.int .i64 0] 3)).alloc (.cells #[.int .i64 0, .slice none 0 0] 24)).alloc (.cells #[.string text] 9)) w.heap.size 0 (.slice none 0 0)) := (five w _ _ _ _ _).1
  have HZ1 : Hid (Boxed (((((w.alloc (.cells #[.int .i64 0, .slice none 0 0] 24)).alloc (.cells #[.int .i64 0] 33)).alloc (.cells #[.int .i64 0] 3)).alloc (.cells #[.int .i64 0, .slice none 0 0] 24)).alloc (.cells #[.string text] 9)) (w.heap.size + 1) 33 (.int .i64 0)) := (five w _ _ _ _ _).2.1
  have HZ2 : Hid (Boxed (((((w.alloc (.cells #[.int .i64 0, .slice none 0 0] 24)).alloc (.cells #[.int .i64 0] 33)).alloc (.cells #[.int .i64 0] 3)).alloc (.cells #[.int .i64 0, .slice none 0 0] 24)).alloc (.cells #[.string text] 9)) (w.heap.size + 2) 3 (.int .i64 0)) := (five w _ _ _ _ _).2.2.1
  have HP0 : Hid (Pb (((((w.alloc (.cells #[.int .i64 0, .slice none 0 0] 24)).alloc (.cells #[.int .i64 0] 33)).alloc (.cells #[.int .i64 0] 3)).alloc (.cells #[.int .i64 0, .slice none 0 0] 24)).alloc (.cells #[.string text] 9)) (w.heap.size + 3) 0 (.slice none 0 0)) := (five w _ _ _ _ _).2.2.2.1
  have HTB : Hid (Boxed (((((w.alloc (.cells #[.int .i64 0, .slice none 0 0] 24)).alloc (.cells #[.int .i64 0] 33)).alloc (.cells #[.int .i64 0] 3)).alloc (.cells #[.int .i64 0, .slice none 0 0] 24)).alloc (.cells #[.string text] 9)) (w.heap.size + 4) 9 (.string text)) := (five w _ _ _ _ _).2.2.2.2
  have HL0 : Hid (Below w.heap.size w (((((w.alloc (.cells #[.int .i64 0, .slice none 0 0] 24)).alloc (.cells #[.int .i64 0] 33)).alloc (.cells #[.int .i64 0] 3)).alloc (.cells #[.int .i64 0, .slice none 0 0] 24)).alloc (.cells #[.string text] 9))) := ((((below_one w _).trans ((below_one _ _).mono (by simp))).trans ((below_one _ _).mono (by simp; omega))).trans ((below_one _ _).mono (by simp; omega))).trans ((below_one _ _).mono (by simp; omega))
  have HSZ : Hid ((((((w.alloc (.cells #[.int .i64 0, .slice none 0 0] 24)).alloc (.cells #[.int .i64 0] 33)).alloc (.cells #[.int .i64 0] 3)).alloc (.cells #[.int .i64 0, .slice none 0 0] 24)).alloc (.cells #[.string text] 9)).heap.size = w.heap.size + 5) := by show _ = _; simp
  have HLS := hide (Pg.lines_size text)
  have HSt := hide (lines_stops 5 (by decide) (w.heap.size + 4) text hts)
  generalize (((((w.alloc (.cells #[.int .i64 0, .slice none 0 0] 24)).alloc (.cells #[.int .i64 0] 33)).alloc (.cells #[.int .i64 0] 3)).alloc (.cells #[.int .i64 0, .slice none 0 0] 24)).alloc (.cells #[.string text] 9)) = Wl at *
  obtain ⟨R, hPS⟩ : ∃ R, Pg.parseS text = R := ⟨_, rfl⟩
  have HPT := hide hPS
  unfold Pg.parseS at hPS
  generalize Pg.linesP text = LS at *
  have HPS := hide hPS
  clear hPS
  have HI0 : Hid (Ln w LS [] Wl) := ⟨⟨0, .slice none 0 0, [], ⟨HP0.out, World.ownsRow_nil _ _ _ _, fun g hg => (by cases hg), by omega⟩, Nat.zero_le _, fun x hx => (by cases hx), fun _ => ⟨rfl, fun k hk => (by cases hk)⟩⟩, HZ0.out, HZ1.out, HZ2.out, HL0.out⟩
  refine wpIn_rangeFunc_ownH rfl (by decide) (gf := 44) (lb := #[.pointer (some ⟨w.heap.size + 4, 0, none⟩)]) rfl trivial (enters_of Tryz.func44 (by kernel_rfl) rfl)
    (HSt.out Wl (by have := HSZ.out; omega) HTB.out.cell) (fun _ _ => trivial) (fun _ _ _ _ _ _ _ _ => trivial) (Below.refl _ _) (fun _ => rfl)
    (Ln w LS) (Lx w LS) (ln_own w LS _ HL0.out.size) (fun c => lx_own w LS c _ HL0.out.size) HI0.out
    (fun x a' _ => a' = { tmps := #[.string text, undef, .pointer (some ⟨w.heap.size, 0, none⟩), .pointer (some ⟨w.heap.size + 1, 0, none⟩), .pointer (some ⟨w.heap.size + 2, 0, none⟩), .pointer (some ⟨w.heap.size + 3, 0, none⟩), .int .i64 ((x : Int) + 1), .string (lnAt LS x), undef, undef, .string text, .func (.func 44) #[] #[.pointer (some ⟨w.heap.size + 4, 0, none⟩)], .int .i64 ((x : Int) + 1), .string (lnAt LS x), undef, undef, undef, undef, undef, undef, undef, undef, undef, undef, undef, undef, undef, undef, undef, undef, undef, undef, undef], defers := [] })
    ?hAx ?assign ?body ?done ?stop
  case assign =>
    rintro k pre x W K hI hK
    gi_wp2
    exact hK _ _ (KeepsFrom.refl _ _) trivial hI rfl
  case hAx => exact fun x a' => fun _ _ _ _ h _ _ => h
  case body =>
    rintro k pre x a' W hk ⟨r, hr⟩ hI rfl hlen
    obtain ⟨⟨f, v, xs, hP, hxl, hxk, hst⟩, z0, z1, z2, hlow⟩ := hI
    have HPL := hide (parseLine_any (base := w.heap.size) (P := w.heap.size + 3) (x + 1) (lnAt LS x) (Nat.le_trans (HLS.out x) hts) W hP hxl hlow.size (HT.out.below hlow (Nat.le_refl _)))
    have hle := Pg.lineP_le (x + 1) (lnAt LS x) f xs hxl hxk
    have hnext : ∀ (hp : pre ++ [x] = List.range (pre ++ [x]).length), pre = List.range pre.length ∧ x = pre.length := fun hp => by
      rw [List.length_append, List.length_singleton, List.range_succ] at hp
      have h1 := List.append_inj hp (by rw [List.length_range])
      exact ⟨h1.1, by simpa using h1.2⟩
    have HP := hide hP
    have HST := hide hst
    have HNX := hide hnext
    have HZ0 := hide z0
    have HZ1 := hide z1
    have HZ2 := hide z2
    have HLo := hide hlow
    have HLI : Hid (∀ (h : pre = List.range pre.length), x = pre.length → ((f, xs) = Pg.stP LS pre.length → Pg.lineP (x + 1) (lnAt LS x) f xs = Pg.lineP (pre.length + 1) LS[pre.length]! (Pg.stP LS pre.length).1 (Pg.stP LS pre.length).2)) := fun _ hx he => by
      rw [← he, hx]; rfl
    generalize Pg.lineP (x + 1) (lnAt LS x) f xs = L at *
    obtain ⟨⟨f2, xs2⟩, ok⟩ := L
    generalize lnAt LS x = ln at *
    clear hP hst hnext z0 z1 z2 hlow hr
    have hxi : ((x + 1 : Nat) : Int) = (x : Int) + 1 := by omega
    rw [hxi] at HPL
    clear hxi
    gi_wp2_with fail
    refine ⟨trivial, (CallsIn.inRound k (callsIn_wide.2 HPL.out)).mono ?_⟩
    rintro e W2 ⟨v2, rfl, hP2, hM2⟩
    have hkeep : ∀ {B : Nat} {cs : Array Value} {t : TypeId} {fz : Nat × Nat}, B < w.heap.size + 3 → W.heap[B]? = some (.cells cs t fz) → W2.heap[B]? = some (.cells cs t fz) := fun {B cs t fz} hB h =>
      (hM2.block B (lt_of_block h) (fun hf => by
        rcases hf with rfl | hf
        · omega
        · have := HP.out.apt B hf; omega)).trans h
    have HP2 := hide hP2
    have HY0 : Hid (Pb W2 w.heap.size 0 (.slice none 0 0)) := hkeep (by omega) HZ0.out
    have HY1 : Hid (Boxed W2 (w.heap.size + 1) 33 (.int .i64 0)) := hkeep (by omega) HZ1.out
    have HY2 : Hid (Boxed W2 (w.heap.size + 2) 3 (.int .i64 0)) := hkeep (by omega) HZ2.out
    have HL2 : Hid (Below w.heap.size w W2) := HLo.out.trans (hM2.below HP.out HLo.out.size)
    have HKO := hide (mp_keeps hM2 HP.out)
    clear hP2 hM2 hkeep
    cases ok with
    | true =>
      gi_wp2
      refine ⟨HKO.out.from _, trivial, ⟨f2, v2, xs2, HP2.out, hle.1, hle.2, fun hp => ?_⟩, HY0.out, HY1.out, HY2.out, HL2.out⟩
      obtain ⟨hp1, hx⟩ := HNX.out hp
      obtain ⟨he, hok⟩ := HST.out hp1
      have hli := HLI.out hp1 hx he
      rw [List.length_append, List.length_singleton]
      refine ⟨by show _ = (Pg.lineP _ _ _ _).1; rw [← hli], fun k hk => ?_⟩
      rcases Nat.lt_succ_iff_lt_or_eq.1 hk with h | h
      · exact hok k h
      · subst h; unfold Pg.okP; rw [← hli]
    | false =>
      have y0 := HY0.out.c0
      have y1 := HY0.out.c1
      have yz := HY0.out.z
      have e0 := HY1.out.cell
      have ez := HY1.out.frozen
      have l0 := HY2.out.cell
      have lz := HY2.out.frozen
      gi_wp2
      have g0 := grown_set W2 w.heap.size 0 (.int .i64 0)
      have g1 := grown_set (W2.setCell ⟨w.heap.size, 0, none⟩ (.int .i64 0)) w.heap.size 1 (.slice none 0 0)
      have p2 := (HY0.out.set0 0).set1 (.slice none 0 0)
      have b1 := (HY1.out.kept g0 (by simp)).kept g1 (by simp)
      have b2 := (HY2.out.kept g0 (by simp)).kept g1 (by simp)
      have hb := (HL2.out.setCell (p := ⟨w.heap.size, 0, none⟩) (Nat.le_refl _) (.int .i64 0)).setCell (p := ⟨w.heap.size, 1, none⟩) (Nat.le_refl _) (.slice none 0 0)
      have hk2 := (HKO.out.trans (KeepsOthers.setCell W2 ⟨w.heap.size, 0, none⟩ (.int .i64 0))).trans (KeepsOthers.setCell (W2.setCell ⟨w.heap.size, 0, none⟩ (.int .i64 0)) ⟨w.heap.size, 1, none⟩ (.slice none 0 0))
      generalize (W2.setCell ⟨w.heap.size, 0, none⟩ (.int .i64 0)).setCell ⟨w.heap.size, 1, none⟩ (.slice none 0 0) = W3 at *
      refine ⟨((hk2.trans (KeepsOthers.setCell _ _ _)).trans (KeepsOthers.setCell _ _ _)).from _, rfl, ⟨x, (b2.other (by omega) _).set _, fun hp => ?_⟩, (p2.grown (grown_set _ _ _ _) (by simp)).grown (grown_set _ _ _ _) (by simp), (b1.set _).other (by omega) _, (hb.setCell (p := ⟨w.heap.size + 1, 0, none⟩) (by simp) _).setCell (p := ⟨w.heap.size + 2, 0, none⟩) (by simp) _⟩
      obtain ⟨hp1, hx⟩ := HNX.out hp
      obtain ⟨he, hok⟩ := HST.out hp1
      have hli := HLI.out hp1 hx he
      rw [List.length_append, List.length_singleton]
      refine ⟨by omega, ?_, fun k hk => hok k (by omega)⟩
      rw [hx]
      unfold Pg.okP
      rw [← hli]
  case done =>
    rintro D ys W hD rfl hI hK
    obtain ⟨⟨f, v, xs, hP, hxl, hxk, hst⟩, z0, z1, z2, hlow⟩ := hI
    rw [List.length_range] at hst
    obtain ⟨hst, hok⟩ := hst rfl
    have hnone : (List.range LS.length).find? (fun k => !Pg.okP LS k) = none := by
      rw [List.find?_eq_none]
      intro k hk
      rw [hok k (List.mem_range.1 hk)]
      simp
    have hR := HPS.out
    rw [hnone] at hR
    simp only [] at hR
    rw [← hst] at hR
    have HC := hide (check_any f xs hxk v W (own_cd hP.row))
    have hle := checkE_le f xs
    obtain ⟨ad, cap, rfl⟩ := own_slice hP.row
    generalize Pg.checkE f xs = ce at *
    obtain ⟨E, at_⟩ := ce
    simp only [] at hR
    have p0 := hP.blk.c0
    have p1 := hP.blk.c1
    have HR := hide hR
    have HP := hide hP
    have HZ0 := hide z0
    have HZ1 := hide z1
    have HZ2 := hide z2
    have HLo := hide hlow
    have HK := hide hK
    clear hR hP z0 z1 z2 hlow hK hst hok hnone
    gi_wp2_with fail
    refine ⟨trivial, (callsIn_wide.2 HC.out).mono ?_⟩
    rintro e W2 ⟨rfl, hb2⟩
    have HP2 := hide (HP.out.keep hb2)
    have HY0 := hide (HZ0.out.grown (grown_below hb2 none) (by simp))
    have HY1 := hide (HZ1.out.kept (grown_below hb2 none) (by simp))
    have HY2 := hide (HZ2.out.kept (grown_below hb2 none) (by simp))
    have HL2 : Hid (Below w.heap.size w W2) := HLo.out.trans (hb2.mono HLo.out.size)
    have HK2 : Hid (W2.heap[D]? = some (.deferred (some []))) := (hb2.block D (lt_of_block HK.out)).trans HK.out
    clear hb2 HP HZ0 HZ1 HZ2 HLo HK p0 p1 HC
    have p0 := HP2.out.blk.c0
    have p1 := HP2.out.blk.c1
    have y0 := HY0.out.c0
    have y1 := HY0.out.c1
    have yz := HY0.out.z
    have e0 := HY1.out.cell
    have ez := HY1.out.frozen
    have l0 := HY2.out.cell
    have lz := HY2.out.frozen
    by_cases hE : E = 0
    · subst hE
      have hR2 : R = ((f, xs), (0, 0)) := HR.out.symm
      have HR2 := hide hR2
      clear HR hR2
      gi_wp2_with fail
      have g0 := grown_set W2 w.heap.size 0 (.int .i64 f)
      have g1 := grown_set (W2.setCell ⟨w.heap.size, 0, none⟩ (.int .i64 f)) w.heap.size 1 (.slice ad xs.length cap)
      have p2 := (HY0.out.set0 f).set1 (.slice ad xs.length cap)
      have b1 := ((HY1.out.kept g0 (by simp)).kept g1 (by simp)).set (.int .i64 0)
      have b2 := ((HY2.out.kept g0 (by simp)).kept g1 (by simp))
      have hb := (HL2.out.setCell (p := ⟨w.heap.size, 0, none⟩) (Nat.le_refl _) (.int .i64 f)).setCell (p := ⟨w.heap.size, 1, none⟩) (Nat.le_refl _) (.slice ad xs.length cap)
      have hk2 := (KeepsOthers.setCell W2 ⟨w.heap.size, 0, none⟩ (.int .i64 f)).trans (KeepsOthers.setCell (W2.setCell ⟨w.heap.size, 0, none⟩ (.int .i64 f)) ⟨w.heap.size, 1, none⟩ (.slice ad xs.length cap))
      have ho := own_grown (own_grown HP2.out.row g0 (fun k hk => by have := HP2.out.apt k hk; simp; omega)) g1 (fun k hk => by have := HP2.out.apt k hk; simp; omega)
      generalize (W2.setCell ⟨w.heap.size, 0, none⟩ (.int .i64 f)).setCell ⟨w.heap.size, 1, none⟩ (.slice ad xs.length cap) = W3 at *
      have hK' : ((W3.setCell ⟨w.heap.size + 1, 0, none⟩ (.int .i64 0)).setCell ⟨w.heap.size + 2, 0, none⟩ (.int .i64 0)).heap[D]? = some (.deferred (some [])) := ((hk2.trans (KeepsOthers.setCell _ _ _)).trans (KeepsOthers.setCell _ _ _)).same D _ HK2.out rfl
      have hr : ∀ r, some D = some r → ∃ o : Obj, ((W3.setCell ⟨w.heap.size + 1, 0, none⟩ (.int .i64 0)).setCell ⟨w.heap.size + 2, 0, none⟩ (.int .i64 0)).heap[r]? = some o ∧ o.isCells = false := fun r e => by cases e; exact ⟨_, hK', rfl⟩
      have q0 : Pb (((W3.setCell ⟨w.heap.size + 1, 0, none⟩ (.int .i64 0)).setCell ⟨w.heap.size + 2, 0, none⟩ (.int .i64 0)).putObj D (.deferred none)) w.heap.size f (.slice ad xs.length cap) := cells_own ((p2.grown (grown_set _ _ _ _) (by simp)).grown (grown_set _ _ _ _) (by simp)) (grownBy_putObj' _ D (.deferred none)) hr
      have q1 : Boxed (((W3.setCell ⟨w.heap.size + 1, 0, none⟩ (.int .i64 0)).setCell ⟨w.heap.size + 2, 0, none⟩ (.int .i64 0)).putObj D (.deferred none)) (w.heap.size + 1) 33 (.int .i64 0) := cells_own (b1.other (by omega) _) (grownBy_putObj' _ D (.deferred none)) hr
      have q2 : Boxed (((W3.setCell ⟨w.heap.size + 1, 0, none⟩ (.int .i64 0)).setCell ⟨w.heap.size + 2, 0, none⟩ (.int .i64 0)).putObj D (.deferred none)) (w.heap.size + 2) 3 (.int .i64 0) := cells_own ((b2.other (by omega) _).set _) (grownBy_putObj' _ D (.deferred none)) hr
      have c0 := q0.c0
      have c1 := q0.c1
      have c2 := q1.cell
      have c3 := q2.cell
      refine ⟨by simp, .inl ⟨_, _, rfl, run_takeDeferred hK', ?_⟩⟩
      refine ⟨.tuple #[.agg #[.int .i64 f, (.slice ad xs.length cap)], .int .i64 0, .int .i64 0], ?_, (.slice ad xs.length cap), ?_, ?_, ((hb.setCell (p := ⟨w.heap.size + 1, 0, none⟩) (by simp) _).setCell (p := ⟨w.heap.size + 2, 0, none⟩) (by simp) _).trans (belowK_b (w := w) (Nat.le_refl _) _ D _ _ (by have := HL0.out.size; omega) hK' rfl rfl)⟩
      · simp [results, Tryz.f8, go_sem, c0, c1, c2, c3]
      · rw [HPT.out, HR2.out]
      · rw [HPT.out, HR2.out]
        exact own_grown (own_grown (own_grown ho (grown_set _ _ _ _) (fun k hk => by have := HP2.out.apt k hk; simp; omega)) (grown_set _ _ _ _) (fun k hk => by have := HP2.out.apt k hk; simp; omega)) (grownBy_putObj' _ D (.deferred none)) (fun k hk e => by injection e with e; subst e; rcases HP2.out.row.2 with ⟨h1, _⟩ | ⟨g, cap', cur, h1, _, hg, _⟩ <;> (rw [h1] at hk; simp only [Value.ownBlock] at hk) <;> (try cases hk) <;> (rw [HK2.out] at hg; cases hg))
    · have hEb : (E != 0) = true := by simp [hE]
      have hR2 : R = ((0, []), (E, Pg.lineOfP E at_)) := by have := HR.out; rw [if_pos hE] at this; exact this.symm
      have HR2 := hide hR2
      have HLO := hide (lineOf_any E at_ hle.1 (by have := hle.2; omega))
      generalize Pg.lineOfP E at_ = LO at *
      clear HR hR2
      gi_wp2_with fail
      refine ⟨trivial, (callsIn_wide.2 (HLO.out _)).mono ?_⟩
      rintro e W5 ⟨rfl, hw5⟩
      obtain rfl : W2 = W5 := hw5.symm
      clear hw5
      gi_wp2_with fail
      have g0 := grown_set W2 w.heap.size 0 (.int .i64 0)
      have g1 := grown_set (W2.setCell ⟨w.heap.size, 0, none⟩ (.int .i64 0)) w.heap.size 1 (.slice none 0 0)
      have p2 := (HY0.out.set0 0).set1 (.slice none 0 0)
      have b1 := ((HY1.out.kept g0 (by simp)).kept g1 (by simp)).set (.int .i64 E)
      have b2 := ((HY2.out.kept g0 (by simp)).kept g1 (by simp))
      have hb := (HL2.out.setCell (p := ⟨w.heap.size, 0, none⟩) (Nat.le_refl _) (.int .i64 0)).setCell (p := ⟨w.heap.size, 1, none⟩) (Nat.le_refl _) (.slice none 0 0)
      have hk2 := (KeepsOthers.setCell W2 ⟨w.heap.size, 0, none⟩ (.int .i64 0)).trans (KeepsOthers.setCell (W2.setCell ⟨w.heap.size, 0, none⟩ (.int .i64 0)) ⟨w.heap.size, 1, none⟩ (.slice none 0 0))
      generalize (W2.setCell ⟨w.heap.size, 0, none⟩ (.int .i64 0)).setCell ⟨w.heap.size, 1, none⟩ (.slice none 0 0) = W3 at *
      have hK' : ((W3.setCell ⟨w.heap.size + 1, 0, none⟩ (.int .i64 E)).setCell ⟨w.heap.size + 2, 0, none⟩ (.int .i64 LO)).heap[D]? = some (.deferred (some [])) := ((hk2.trans (KeepsOthers.setCell _ _ _)).trans (KeepsOthers.setCell _ _ _)).same D _ HK2.out rfl
      have hr : ∀ r, some D = some r → ∃ o : Obj, ((W3.setCell ⟨w.heap.size + 1, 0, none⟩ (.int .i64 E)).setCell ⟨w.heap.size + 2, 0, none⟩ (.int .i64 LO)).heap[r]? = some o ∧ o.isCells = false := fun r e => by cases e; exact ⟨_, hK', rfl⟩
      have q0 : Pb (((W3.setCell ⟨w.heap.size + 1, 0, none⟩ (.int .i64 E)).setCell ⟨w.heap.size + 2, 0, none⟩ (.int .i64 LO)).putObj D (.deferred none)) w.heap.size 0 (.slice none 0 0) := cells_own ((p2.grown (grown_set _ _ _ _) (by simp)).grown (grown_set _ _ _ _) (by simp)) (grownBy_putObj' _ D (.deferred none)) hr
      have q1 : Boxed (((W3.setCell ⟨w.heap.size + 1, 0, none⟩ (.int .i64 E)).setCell ⟨w.heap.size + 2, 0, none⟩ (.int .i64 LO)).putObj D (.deferred none)) (w.heap.size + 1) 33 (.int .i64 E) := cells_own (b1.other (by omega) _) (grownBy_putObj' _ D (.deferred none)) hr
      have q2 : Boxed (((W3.setCell ⟨w.heap.size + 1, 0, none⟩ (.int .i64 E)).setCell ⟨w.heap.size + 2, 0, none⟩ (.int .i64 LO)).putObj D (.deferred none)) (w.heap.size + 2) 3 (.int .i64 LO) := cells_own ((b2.other (by omega) _).set _) (grownBy_putObj' _ D (.deferred none)) hr
      have c0 := q0.c0
      have c1 := q0.c1
      have c2 := q1.cell
      have c3 := q2.cell
      refine ⟨by simp, .inl ⟨_, _, rfl, run_takeDeferred hK', ?_⟩⟩
      refine ⟨.tuple #[.agg #[.int .i64 0, (.slice none 0 0)], .int .i64 E, .int .i64 LO], ?_, (.slice none 0 0), ?_, ?_, ((hb.setCell (p := ⟨w.heap.size + 1, 0, none⟩) (by simp) _).setCell (p := ⟨w.heap.size + 2, 0, none⟩) (by simp) _).trans (belowK_b (w := w) (Nat.le_refl _) _ D _ _ (by have := HL0.out.size; omega) hK' rfl rfl)⟩
      · simp [results, Tryz.f8, go_sem, c0, c1, c2, c3]
      · rw [HPT.out, HR2.out]
      · rw [HPT.out, HR2.out]
        exact World.ownsRow_nil _ _ _ _
  case stop =>
    rintro D c pre W hD ⟨k, hk, rfl⟩ hX hK
    obtain ⟨rfl, ⟨x, l2, hx⟩, z0, z1, hlow⟩ := hX
    rw [List.length_range] at hx
    obtain ⟨hkx, hno, hok⟩ := hx rfl
    have hfind : (List.range LS.length).find? (fun k => !Pg.okP LS k) = some x := by
      rw [List.find?_range_eq_some]
      refine ⟨by rw [hno]; rfl, by simp; omega, fun j hj => by rw [hok j hj]; rfl⟩
    have hR := HPS.out
    rw [hfind] at hR
    simp only [] at hR
    have HR2 : Hid (R = ((0, []), (55, (x : Int) + 1))) := hR.symm
    gi_wp2_with fail
    have hK' : (W).heap[D]? = some (.deferred (some [])) := hK
    have hr : ∀ r, some D = some r → ∃ o : Obj, (W).heap[r]? = some o ∧ o.isCells = false := fun r e => by cases e; exact ⟨_, hK', rfl⟩
    have q0 : Pb ((W).putObj D (.deferred none)) w.heap.size 0 (.slice none 0 0) := cells_own z0 (grownBy_putObj' _ D (.deferred none)) hr
    have q1 : Boxed ((W).putObj D (.deferred none)) (w.heap.size + 1) 33 (.int .i64 55) := cells_own z1 (grownBy_putObj' _ D (.deferred none)) hr
    have q2 : Boxed ((W).putObj D (.deferred none)) (w.heap.size + 2) 3 (.int .i64 ((x : Int) + 1)) := cells_own l2 (grownBy_putObj' _ D (.deferred none)) hr
    have c0 := q0.c0
    have c1 := q0.c1
    have c2 := q1.cell
    have c3 := q2.cell
    refine ⟨by simp, .inl ⟨_, _, rfl, run_takeDeferred hK', ?_⟩⟩
    refine ⟨.tuple #[.agg #[.int .i64 0, (.slice none 0 0)], .int .i64 55, .int .i64 ((x : Int) + 1)], ?_, (.slice none 0 0), ?_, ?_, (hlow).trans (belowK_b (w := w) (Nat.le_refl _) _ D _ _ (by have := HL0.out.size; omega) hK' rfl rfl)⟩
    · simp [results, Tryz.f8, go_sem, c0, c1, c2, c3]
    · rw [HPT.out, HR2.out]
    · rw [HPT.out, HR2.out]
      exact World.ownsRow_nil _ _ _ _
end Go.Proofs.YtpgehocadohkiaaGreatDoor
end
