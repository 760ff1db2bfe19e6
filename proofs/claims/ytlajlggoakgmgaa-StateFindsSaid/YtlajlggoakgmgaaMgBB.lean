import Derived.Test.YtlajlggoakgmgaaMgAZ
import Derived.Test.YtlajlggoakgmgaaMgBA
import Derived.Deep.DeepCutAuto

section
namespace Go.Proofs.Ytlajlggoakgmgaa.S
open Go.RowKit
open Rc (Ch)
open Q (Rr rr0 Qm Ft Mv fnd)

/-- changes as they lie in a row -/
def ccs (q : List (Ch × Value)) : List Value := q.flatMap fun x => (chC x.1 x.2).toList
theorem ccs_get (l : List (Ch × Value)) (i k : Nat) (hi : i < l.length) (hk : k < 10) : (ccs l)[i * 10 + k]? = (chC (l[i]).1 (l[i]).2)[k]? := by
  induction l generalizing i with
  | nil => simp at hi
  | cons j l ih =>
    have e : ccs (j :: l) = (chC j.1 j.2).toList ++ ccs l := by simp [ccs]
    have h10 : (chC j.1 j.2).toList.length = 10 := rfl
    rw [e]
    cases i with
    | zero => rw [List.getElem?_append_left (by omega)]; simp
    | succ i =>
      rw [List.getElem?_append_right (by omega), h10, show (i + 1) * 10 + k - 10 = i * 10 + k by omega, ih i (by simpa using hi)]
      simp
theorem rw_of {w : World} {g : Nat} {T : TypeId} {q : List (Ch × Value)} (h : w.heap[g]? = some (.cells (ccs q).toArray T (0, 0))) (ht : ∀ x ∈ q, Tx w x.2 x.1.tx ∧ x.1.tx.length ≤ 140737488351232 ∧ x.1.rb < 18446744073709551616) :
    Rw w (.slice (some ⟨g, 0, none⟩) (q.map Prod.fst).length (q.map Prod.fst).length) (q.map Prod.fst) := by
  refine ⟨_, _, rfl, fun _ => ⟨g, 0, rfl, lt_of_block h, fun j hj => ?_⟩⟩
  have hj' : j < q.length := by simpa using hj
  have hm := ht q[j] (List.getElem_mem hj')
  have e : (q.map Prod.fst)[j]! = (q[j]).1 := by rw [getElem!_pos _ j hj, List.getElem_map]
  rw [e]
  refine ⟨(q[j]).2, hm.1, hm.2.1, hm.2.2, fun i u hu => ?_⟩
  have hi : i < 10 := (Array.getElem?_eq_some_iff.1 hu).1
  rw [Nat.zero_add]
  simp only [World.cell?, h]
  have := ccs_get q j i hj' hi
  rw [hu] at this
  simpa using this
theorem bys0 : bys sx0 = [0, 0] := by
  unfold bys
  show encs [0, 0] ++ [] = _
  simp [encs, Pk.enc_lt]
def c4a : Ch := ⟨2, 0, 1, 0, 0, 0, 0, 0, ⟨#[112]⟩, []⟩
def c4b : Ch := ⟨1, 4, 0, 0, 0, 0, 0, 0, ⟨#[]⟩, []⟩
def c4c : Ch := ⟨3, 0, 1, 2, 0, 1, 0, 0, ⟨#[]⟩, []⟩
def c4d : Ch := ⟨4, 0, 0, 2, 0, 0, 0, 0, ⟨#[]⟩, [⟨#[97]⟩, ⟨#[98]⟩]⟩
def c2a : Ch := ⟨1, 9, 0, 0, 0, 0, 0, 0, ⟨#[]⟩, []⟩
def s4 : Sx := ⟨4, [⟨1, 2, 1, 2, 2, 1, 0, 0⟩], ⟨⟨#[112]⟩, [⟨#[97]⟩, ⟨#[98]⟩]⟩ :: List.replicate 7 pp0⟩
theorem app4 : app 1 sx0 [c4a, c4b, c4c, c4d] = some s4 := by rfl
theorem app2 : app 1 s4 [c2a, c4b] = none := by rfl
theorem bad2 : bad 1 s4 [c2a, c4b] = 1 := by rfl
theorem fnd4 : fnd 2 s4.L = ⟨1, 2, 1, 2, 2, 1, 0, 0⟩ := by rfl
set_option maxHeartbeats 2000000 in
set_option maxRecDepth 20000 in
theorem sfixed_any (w : World) : Calls Try.prog 8 #[] w fun e w' => e = .returned (.bool true) ∧ Below w.heap.size w w' := by
  have HNw := hide (new_any w 1)
  go_enter Try.func8, Try.ntmps8
  go_wp2_with fail
  refine HNw.out.mono ?_
  rintro e w1 (⟨h1, _⟩ | ⟨b, h1, hok, rfl, hbl, hsd, hb1⟩)
  · exact absurd (by decide) h1
  have hs1 := hsd (fun g => g = b) (fun g hg => .inr hg)
  have H1 := hide hs1
  have HB1 := hide hb1
  have HW0 := hide (wf0 hok)
  have HBy := hide (bytes_any hs1 (wf0 hok))
  have hbw := hs1.lt
  rw [bys0] at HBy
  clear hs1 hb1 hsd h1 hok HNw
  go_wp2_with fail
  refine HBy.out.mono ?_
  rintro e w2 ⟨rfl, hb2⟩
  have H2 := hide (H1.out.below hb2)
  have HB2 := hide (HB1.out.trans (hb2.mono HB1.out.size))
  have hbw2 : b < w2.heap.size := H2.out.lt
  clear hb2 H1 HB1 HBy
  have hsz2 := HB2.out.size
  have hsA := World.size_alloc w2 (.cells #[.string ⟨#[97]⟩, .string ⟨#[98]⟩] 9)
  have hbA := below_alloc w2 (.cells #[.string ⟨#[97]⟩, .string ⟨#[98]⟩] 9)
  have hnA := heap_alloc_new w2 (.cells #[.string ⟨#[97]⟩, .string ⟨#[98]⟩] 9)
  have hbB := below_alloc (w2.alloc (.cells #[.string ⟨#[97]⟩, .string ⟨#[98]⟩] 9)) (.cells #[.int .i64 2, .int .i64 0, .int .i64 1, .int .i64 0, .int .i64 0, .int .i64 0, .int .i64 0, .int .u64 0, .string ⟨#[112]⟩, .slice none 0 0, .int .i64 1, .int .i64 4, .int .i64 0, .int .i64 0, .int .i64 0, .int .i64 0, .int .i64 0, .int .u64 0, .string ⟨#[]⟩, .slice none 0 0, .int .i64 3, .int .i64 0, .int .i64 1, .int .i64 2, .int .i64 0, .int .i64 1, .int .i64 0, .int .u64 0, .string ⟨#[]⟩, .slice none 0 0, .int .i64 4, .int .i64 0, .int .i64 0, .int .i64 2, .int .i64 0, .int .i64 0, .int .i64 0, .int .u64 0, .string ⟨#[]⟩, .slice (some ⟨w2.heap.size, 0, none⟩) 2 2] 69)
  have hnB := heap_alloc_new (w2.alloc (.cells #[.string ⟨#[97]⟩, .string ⟨#[98]⟩] 9)) (.cells #[.int .i64 2, .int .i64 0, .int .i64 1, .int .i64 0, .int .i64 0, .int .i64 0, .int .i64 0, .int .u64 0, .string ⟨#[112]⟩, .slice none 0 0, .int .i64 1, .int .i64 4, .int .i64 0, .int .i64 0, .int .i64 0, .int .i64 0, .int .i64 0, .int .u64 0, .string ⟨#[]⟩, .slice none 0 0, .int .i64 3, .int .i64 0, .int .i64 1, .int .i64 2, .int .i64 0, .int .i64 1, .int .i64 0, .int .u64 0, .string ⟨#[]⟩, .slice none 0 0, .int .i64 4, .int .i64 0, .int .i64 0, .int .i64 2, .int .i64 0, .int .i64 0, .int .i64 0, .int .u64 0, .string ⟨#[]⟩, .slice (some ⟨w2.heap.size, 0, none⟩) 2 2] 69)
  rw [hsA] at hnB
  have hA3 := (hbB.block _ (by omega)).trans hnA
  have hT : Tx ((w2.alloc (.cells #[.string ⟨#[97]⟩, .string ⟨#[98]⟩] 9)).alloc (.cells #[.int .i64 2, .int .i64 0, .int .i64 1, .int .i64 0, .int .i64 0, .int .i64 0, .int .i64 0, .int .u64 0, .string ⟨#[112]⟩, .slice none 0 0, .int .i64 1, .int .i64 4, .int .i64 0, .int .i64 0, .int .i64 0, .int .i64 0, .int .i64 0, .int .u64 0, .string ⟨#[]⟩, .slice none 0 0, .int .i64 3, .int .i64 0, .int .i64 1, .int .i64 2, .int .i64 0, .int .i64 1, .int .i64 0, .int .u64 0, .string ⟨#[]⟩, .slice none 0 0, .int .i64 4, .int .i64 0, .int .i64 0, .int .i64 2, .int .i64 0, .int .i64 0, .int .i64 0, .int .u64 0, .string ⟨#[]⟩, .slice (some ⟨w2.heap.size, 0, none⟩) 2 2] 69)) (.slice (some ⟨w2.heap.size, 0, none⟩) 2 2) [⟨#[97]⟩, ⟨#[98]⟩] := ⟨_, 2, rfl, fun _ => ⟨w2.heap.size, 0, rfl, lt_of_block hA3, fun j hj => by
    have h2 : j = 0 ∨ j = 1 := by have h3 : j < 2 := hj; omega
    rcases h2 with rfl | rfl <;> simp [World.cell?, hA3]⟩⟩
  have hRw : Rw ((w2.alloc (.cells #[.string ⟨#[97]⟩, .string ⟨#[98]⟩] 9)).alloc (.cells #[.int .i64 2, .int .i64 0, .int .i64 1, .int .i64 0, .int .i64 0, .int .i64 0, .int .i64 0, .int .u64 0, .string ⟨#[112]⟩, .slice none 0 0, .int .i64 1, .int .i64 4, .int .i64 0, .int .i64 0, .int .i64 0, .int .i64 0, .int .i64 0, .int .u64 0, .string ⟨#[]⟩, .slice none 0 0, .int .i64 3, .int .i64 0, .int .i64 1, .int .i64 2, .int .i64 0, .int .i64 1, .int .i64 0, .int .u64 0, .string ⟨#[]⟩, .slice none 0 0, .int .i64 4, .int .i64 0, .int .i64 0, .int .i64 2, .int .i64 0, .int .i64 0, .int .i64 0, .int .u64 0, .string ⟨#[]⟩, .slice (some ⟨w2.heap.size, 0, none⟩) 2 2] 69)) (.slice (some ⟨w2.heap.size + 1, 0, none⟩) 4 4) [c4a, c4b, c4c, c4d] := rw_of (q := [(c4a, .slice none 0 0), (c4b, .slice none 0 0), (c4c, .slice none 0 0), (c4d, .slice (some ⟨w2.heap.size, 0, none⟩) 2 2)]) hnB (by
    intro x hx
    simp only [List.mem_cons, List.not_mem_nil, or_false] at hx
    rcases hx with rfl | rfl | rfl | rfl
    · exact ⟨Tx.nil _, by decide, by decide⟩
    · exact ⟨Tx.nil _, by decide, by decide⟩
    · exact ⟨Tx.nil _, by decide, by decide⟩
    · exact ⟨hT, by show c4d.tx.length ≤ _; decide, by show c4d.rb < _; decide⟩)
  have hS3 := (H2.out.below hbA).below hbB
  have HB3 : Hid (Below w.heap.size w ((w2.alloc (.cells #[.string ⟨#[97]⟩, .string ⟨#[98]⟩] 9)).alloc (.cells #[.int .i64 2, .int .i64 0, .int .i64 1, .int .i64 0, .int .i64 0, .int .i64 0, .int .i64 0, .int .u64 0, .string ⟨#[112]⟩, .slice none 0 0, .int .i64 1, .int .i64 4, .int .i64 0, .int .i64 0, .int .i64 0, .int .i64 0, .int .i64 0, .int .u64 0, .string ⟨#[]⟩, .slice none 0 0, .int .i64 3, .int .i64 0, .int .i64 1, .int .i64 2, .int .i64 0, .int .i64 1, .int .i64 0, .int .u64 0, .string ⟨#[]⟩, .slice none 0 0, .int .i64 4, .int .i64 0, .int .i64 0, .int .i64 2, .int .i64 0, .int .i64 0, .int .i64 0, .int .u64 0, .string ⟨#[]⟩, .slice (some ⟨w2.heap.size, 0, none⟩) 2 2] 69))) := hide ((HB2.out.alloc hsz2 _).alloc (by omega) _)
  have HAp := hide (apply_any hS3 (fun g hg => by rw [show g = b from hg]; exact hS3.lt) rfl HW0.out hRw (by decide))
  have hsB : ((w2.alloc (.cells #[.string ⟨#[97]⟩, .string ⟨#[98]⟩] 9)).alloc (.cells #[.int .i64 2, .int .i64 0, .int .i64 1, .int .i64 0, .int .i64 0, .int .i64 0, .int .i64 0, .int .u64 0, .string ⟨#[112]⟩, .slice none 0 0, .int .i64 1, .int .i64 4, .int .i64 0, .int .i64 0, .int .i64 0, .int .i64 0, .int .i64 0, .int .u64 0, .string ⟨#[]⟩, .slice none 0 0, .int .i64 3, .int .i64 0, .int .i64 1, .int .i64 2, .int .i64 0, .int .i64 1, .int .i64 0, .int .u64 0, .string ⟨#[]⟩, .slice none 0 0, .int .i64 4, .int .i64 0, .int .i64 0, .int .i64 2, .int .i64 0, .int .i64 0, .int .i64 0, .int .u64 0, .string ⟨#[]⟩, .slice (some ⟨w2.heap.size, 0, none⟩) 2 2] 69)).heap.size = w2.heap.size + 1 + 1 := by rw [World.size_alloc, hsA]
  clear hnA hnB hA3 hT hRw hS3 hbA hbB hsA H2 HB2
  go_wp2_with fail
  refine HAp.out.mono ?_
  rintro e w3 (⟨h1, _, _⟩ | ⟨s', h1, rfl, hS, hM⟩)
  · rw [app4] at h1; cases h1
  rw [app4, Option.some.injEq] at h1
  subst h1
  have H3 := hide hS
  have HB4 := hide (HB3.out.trans (hM.below (B := w.heap.size) HB3.out.size (fun g hg => by rw [hg]; exact hbl)))
  have HW4 : Hid (Wf 1 s4) := hide (app_wf HW0.out (by intro c hc; simp at hc; rcases hc with rfl | rfl | rfl | rfl <;> decide) app4)
  have hsz3 := HB4.out.size
  clear hS hM HAp HB3 HW0 hsB hsz2
  have hbC := below_alloc w3 (.cells #[.int .i64 1, .int .i64 9, .int .i64 0, .int .i64 0, .int .i64 0, .int .i64 0, .int .i64 0, .int .u64 0, .string ⟨#[]⟩, .slice none 0 0, .int .i64 1, .int .i64 4, .int .i64 0, .int .i64 0, .int .i64 0, .int .i64 0, .int .i64 0, .int .u64 0, .string ⟨#[]⟩, .slice none 0 0] 69)
  have hnC := heap_alloc_new w3 (.cells #[.int .i64 1, .int .i64 9, .int .i64 0, .int .i64 0, .int .i64 0, .int .i64 0, .int .i64 0, .int .u64 0, .string ⟨#[]⟩, .slice none 0 0, .int .i64 1, .int .i64 4, .int .i64 0, .int .i64 0, .int .i64 0, .int .i64 0, .int .i64 0, .int .u64 0, .string ⟨#[]⟩, .slice none 0 0] 69)
  have hR2 : Rw (w3.alloc (.cells #[.int .i64 1, .int .i64 9, .int .i64 0, .int .i64 0, .int .i64 0, .int .i64 0, .int .i64 0, .int .u64 0, .string ⟨#[]⟩, .slice none 0 0, .int .i64 1, .int .i64 4, .int .i64 0, .int .i64 0, .int .i64 0, .int .i64 0, .int .i64 0, .int .u64 0, .string ⟨#[]⟩, .slice none 0 0] 69)) (.slice (some ⟨w3.heap.size, 0, none⟩) 2 2) [c2a, c4b] := rw_of (q := [(c2a, .slice none 0 0), (c4b, .slice none 0 0)]) hnC (by
    intro x hx
    simp only [List.mem_cons, List.not_mem_nil, or_false] at hx
    rcases hx with rfl | rfl
    · exact ⟨Tx.nil _, by decide, by decide⟩
    · exact ⟨Tx.nil _, by decide, by decide⟩)
  have hS4 := H3.out.below hbC
  have H4 := hide hS4
  have HB5 : Hid (Below w.heap.size w (w3.alloc (.cells #[.int .i64 1, .int .i64 9, .int .i64 0, .int .i64 0, .int .i64 0, .int .i64 0, .int .i64 0, .int .u64 0, .string ⟨#[]⟩, .slice none 0 0, .int .i64 1, .int .i64 4, .int .i64 0, .int .i64 0, .int .i64 0, .int .i64 0, .int .i64 0, .int .u64 0, .string ⟨#[]⟩, .slice none 0 0] 69))) := hide (HB4.out.alloc hsz3 _)
  have HAp := hide (apply_any hS4 (fun g hg => by rw [show g = b from hg]; exact hS4.lt) rfl HW4.out hR2 (by decide))
  clear hnC hR2 hS4 hbC H3 HB4
  go_wp2_with fail
  refine HAp.out.mono ?_
  rintro e w4 (⟨h1, rfl, hb4⟩ | ⟨s', h1, _, _, _⟩)
  rotate_left
  · rw [app2] at h1; cases h1
  rw [bad2]
  have H5 := hide (H4.out.below hb4)
  have HB6 := hide (HB5.out.trans (hb4.mono HB5.out.size))
  have HFi := hide (find_any H5.out HW4.out 2)
  clear h1 hb4 HAp H4 HB5
  go_wp2_with fail
  refine HFi.out.mono ?_
  rintro e w5 (⟨h1, _, _⟩ | ⟨i, t, _, hi, _, rfl, ho, hb5⟩)
  · rw [fnd4] at h1; exact absurd h1 (by decide)
  obtain rfl : i = 0 := by have h3 : i < 1 := hi; omega
  rw [fnd4]
  have hpl : s4.pa 0 = ⟨⟨#[112]⟩, [⟨#[97]⟩, ⟨#[98]⟩]⟩ := rfl
  rw [hpl] at ho ⊢
  have hTt := tx_own ho
  obtain ⟨pt, ct, rfl⟩ := own_slice ho
  have hptx := hTt.form
  obtain ⟨pt', ct', he, hc⟩ := hptx
  simp only [Value.slice.injEq] at he
  obtain ⟨rfl, -, rfl⟩ := he
  obtain ⟨tb, tf, rfl, htl, htc⟩ := hc (by show 0 < 2; decide)
  have t1 : w5.cell? ⟨tb, tf + 1, none⟩ = some (.string ⟨#[98]⟩) := htc 1 (by show 1 < 2; decide)
  have H6 := hide (H5.out.below hb5)
  have HB7 := hide (HB6.out.trans (hb5.mono HB6.out.size))
  have hsz5 := HB7.out.size
  clear ho hTt hc htc hb5 HFi H5 HB6 hi
  simp only [plC]
  have hlen2 : ([⟨#[97]⟩, ⟨#[98]⟩] : List ByteArray).length = 2 := rfl
  simp only [hlen2]
  have HRe := hide (reserved_any (H6.out.below (below_alloc w5 (.cells (plC ⟨1, 2, 1, 2, 2, 1, 0, 0⟩ ⟨#[112]⟩ (.slice (some ⟨tb, tf, none⟩) 2 ct)) 48))))
  have HB8 : Hid (Below w.heap.size w (w5.alloc (.cells (plC ⟨1, 2, 1, 2, 2, 1, 0, 0⟩ ⟨#[112]⟩ (.slice (some ⟨tb, tf, none⟩) 2 ct)) 48))) := hide (HB7.out.alloc hsz5 _)
  have t2 : (w5.alloc (.cells (plC ⟨1, 2, 1, 2, 2, 1, 0, 0⟩ ⟨#[112]⟩ (.slice (some ⟨tb, tf, none⟩) 2 ct)) 48)).cell? ⟨tb, tf + 1, none⟩ = some (.string ⟨#[98]⟩) := Lib.cell?_alloc_some _ t1
  simp only [plC] at HRe HB8 t2
  clear H6 HB7 t1
  go_wp2_with fail
  refine HRe.out.mono ?_
  rintro e w6 ⟨rfl, rfl⟩
  have hr4 : s4.res = 4 := rfl
  rw [hr4]
  clear HRe
  go_wp2_with fail
  go_ret
  exact ⟨rfl, HB8.out⟩
end Go.Proofs.Ytlajlggoakgmgaa.S
end

section
namespace Go.Proofs.Ytlajlggoakgmgaa.S
open Go.RowKit
open Rc (Ch)
open Q (Rr rr0 Qm Ft Mv)

set_option maxHeartbeats 400000 in
theorem splace_any {w : World} {n : Int} {m : Nat} (h0 : 0 < m) (h1 : m ≤ 1000) (_ : -9223372036854775808 ≤ n ∧ n ≤ 9223372036854775807) :
    Calls Try.prog 11 #[.int .i64 n, .int .i64 (m : Int)] w fun e w' => e = .returned (.int .i64 (Q.pl n m : Int)) ∧ w' = w := by
  have ht1 : n.tmod (m : Int) < (m : Int) := Int.tmod_lt_of_pos _ (by omega)
  have ht2 : -(m : Int) < n.tmod (m : Int) := Int.lt_tmod_of_pos _ (by omega)
  have hz : (m : Int) ≠ 0 := by omega
  have hz1 : (m : Int) ≠ -1 := by omega
  unfold Q.pl
  generalize ht : n.tmod (m : Int) = t at *
  obtain ⟨r, hr⟩ : ∃ r : Int, (((if t < 0 then t + m else t).toNat : Nat) : Int) = r := ⟨_, rfl⟩
  rw [hr]
  by_cases h : t < 0
  · have b0 : decide (t < 0) = true := by simpa using h
    have HR : Hid (r = t + m) := by rw [if_pos h] at hr; show r = t + m; omega
    clear hr
    go_enter Try.func11, Try.ntmps11
    go_wp2
    go_ret
    rw [HR.out]
    exact ⟨rfl, rfl⟩
  · have b0 : decide (t < 0) = false := by simpa using h
    have HR : Hid (r = t) := by rw [if_neg h] at hr; show r = t; omega
    clear hr
    go_enter Try.func11, Try.ntmps11
    go_wp2
    go_ret
    rw [HR.out]
    exact ⟨rfl, rfl⟩

/-- a part of a row -/
theorem rw_sub {w : World} {bb off cap : Nat} {l : List Ch} (h : Rw w (.slice (some ⟨bb, off, none⟩) l.length cap) l) {i k : Nat} (hik : i ≤ k) (hk : k ≤ l.length) (c' : Nat) : Rw w (.slice (some ⟨bb, off + i * 10, none⟩) (k - i) c') ((l.drop i).take (k - i)) := by
  obtain ⟨p, cp, hv, h2⟩ := h
  simp only [Value.slice.injEq] at hv
  obtain ⟨rfl, -, rfl⟩ := hv
  have hlen : ((l.drop i).take (k - i)).length = k - i := by rw [List.length_take, List.length_drop]; omega
  refine ⟨some ⟨bb, off + i * 10, none⟩, c', by rw [hlen], fun h0 => ?_⟩
  rw [hlen] at h0
  obtain ⟨b', off', e, hlt, hc⟩ := h2 (by omega)
  simp only [Option.some.injEq, Addr.mk.injEq, and_true] at e
  obtain ⟨rfl, rfl⟩ := e
  refine ⟨bb, off + i * 10, rfl, hlt, fun j hj => ?_⟩
  rw [hlen] at hj
  obtain ⟨t, h3, h4, h5, h6⟩ := hc (i + j) (by omega)
  have e : ((l.drop i).take (k - i))[j]! = l[i + j]! := by
    rw [getElem!_pos _ j (by rw [hlen]; exact hj), getElem!_pos l (i + j) (by omega), List.getElem_take, List.getElem_drop]
  rw [e]
  refine ⟨t, h3, h4, h5, fun q u hq => ?_⟩
  have := h6 q u hq
  rw [show off + i * 10 + j * 10 + q = off + (i + j) * 10 + q by omega]
  exact this
set_option maxHeartbeats 4000000 in
set_option maxRecDepth 20000 in
theorem stateCuts_walk (x : Int) (_ : -9223372036854775808 ≤ x) (_ : x ≤ 9223372036854775807) {w : World} {va : Value} {l : List Ch} (hR : Rw w va l) (hl : l.length ≤ 1353245080301) (hC : ∀ p n c, va = .slice p n c → n ≤ c ∧ c ≤ maxLen) (cut : Int) (_ : -9223372036854775808 ≤ cut) (_ : cut ≤ 9223372036854775807) :
    Calls Try.prog 3 #[.int .i64 x, va, .int .i64 cut] w fun e w' => e = .returned (.bool true) ∧ Below w.heap.size w w' := by
  have hRw := hR
  obtain ⟨pv, cap, rfl, hx0⟩ := hR
  obtain ⟨hcap, hcm⟩ := hC _ _ _ rfl
  have HRB : Hid (∀ c ∈ l, c.rb < 18446744073709551616) := hide fun c hc => by
    obtain ⟨j, hj, e⟩ := List.getElem_of_mem hc
    obtain ⟨_, _, _, _, hcc⟩ := hx0 (by omega)
    obtain ⟨_, _, _, h3, _⟩ := hcc j hj
    rw [getElem!_pos l j hj, e] at h3
    exact h3
  have HX0 := hide hx0
  have HR0 := hide hRw
  clear hx0 hRw hC
  have HNa := hide (new_any w x)
  go_enter Try.func3, Try.ntmps3
  go_wp2_with fail
  refine HNa.out.mono ?_
  rintro e w1 (⟨hno, rfl, hb1⟩ | ⟨bA, hyes, hok, rfl, hblA, hsdA, hb1⟩)
  · have HB1 := hide hb1
    have HNb := hide (new_any w1 x)
    clear hb1 HNa
    go_wp2_with fail
    refine HNb.out.mono ?_
    rintro e w2 (⟨_, rfl, hb2⟩ | ⟨_, h1, _, _, _, _, _⟩)
    rotate_left
    · exact absurd h1 hno
    have HB2 := hide (HB1.out.trans (hb2.mono HB1.out.size))
    clear hb2 HB1 HNb
    by_cases hx1 : x < 1
    · have d1 : decide (x < 1) = true := decide_eq_true hx1
      go_wp2_with fail
      refine (sfixed_any _).mono ?_
      rintro e w3 ⟨rfl, hb3⟩
      have HB3 := hide (HB2.out.trans (hb3.mono HB2.out.size))
      clear hb3 HB2
      go_wp2_with fail
      go_ret
      exact ⟨rfl, HB3.out⟩
    · have hx8 : 8 < x := by omega
      have d1 : decide (x < 1) = false := decide_eq_false hx1
      have d2 : decide (8 < x) = true := decide_eq_true hx8
      go_wp2_with fail
      refine (sfixed_any _).mono ?_
      rintro e w3 ⟨rfl, hb3⟩
      have HB3 := hide (HB2.out.trans (hb3.mono HB2.out.size))
      clear hb3 HB2
      go_wp2_with fail
      go_ret
      exact ⟨rfl, HB3.out⟩
  · have hSA1 := hsdA (fun g => g = bA) (fun g hg => .inr hg)
    have HW0 := hide (wf0 hok)
    have HSA1 := hide hSA1
    have HB1 := hide hb1
    have hbA1 := hSA1.lt
    have HNb := hide (new_any w1 x)
    clear hb1 HNa hSA1 hsdA
    go_wp2_with fail
    refine HNb.out.mono ?_
    rintro e w2 (⟨h1, _, _⟩ | ⟨bB, _, _, rfl, hblB, hsdB, hb2⟩)
    · exact absurd hyes h1
    obtain ⟨N, hN⟩ : ∃ N : Nat → Prop, N = fun g => g = bA ∨ g = bB := ⟨_, rfl⟩
    have hSB2 := hsdB N (fun g hg => by rw [hN] at hg; rcases hg with rfl | rfl; exact .inl hbA1; exact .inr rfl)
    have hSA2 := (HSA1.out.more (N' := N) (fun g hg => by rw [hN] at hg; rcases hg with rfl | rfl; exact .inl rfl; exact .inr hblB)).below hb2
    have HNA : Hid (N bA) := hide (by rw [hN]; exact .inl rfl)
    have hbB2 := hSB2.lt
    have hszB := hb2.size
    have HNl2 : Hid (∀ g, N g → g < w2.heap.size) := hide fun g hg => by rw [hN] at hg; rcases hg with rfl | rfl; omega; exact hbB2
    have HNe : Hid (¬ bA = bB) := hide (by omega)
    have HBx := hide (HB1.out.trans (hb2.mono HB1.out.size))
    have hsw := HB1.out.size
    have hbBw : w.heap.size ≤ bB := by omega
    have HAy := hide (apply_any hSA2 HNl2.out HNA.out HW0.out (HR0.out.below HBx.out (Nat.le_refl _)) (by omega))
    have HSB2 := hide hSB2
    have HSA2 := hide hSA2
    have HmA : Hid (∀ g, g = bA → N g) := hide fun g hg => by rw [hN]; exact .inl hg
    have HmB : Hid (∀ g, g = bB → N g) := hide fun g hg => by rw [hN]; exact .inr hg
    have HNBb : Hid (N bB) := hide (by rw [hN]; exact .inr rfl)
    have HNd : Hid (∀ g, N g → g = bA ∨ g = bB) := hide fun g hg => by rw [hN] at hg; exact hg
    have HNe2 : Hid (¬ bB = bA) := hide (by omega)
    clear hSB2 hSA2 hsdB hb2 HNb HSA1 HB1 hN
    go_wp2_with fail
    refine HAy.out.mono ?_
    rintro e w3 (⟨hbad, rfl, hb3⟩ | ⟨sA, hAa, rfl, hS, hM⟩)
    · obtain ⟨hblt, sA, hA⟩ := bad_none x l sx0 hbad
      obtain ⟨l2, hl2⟩ : ∃ l2, l.take (bad x sx0 l) = l2 := ⟨_, rfl⟩
      have hlen2 : bad x sx0 l = l2.length := by rw [← hl2, List.length_take]; omega
      rw [hl2] at hA
      rw [hlen2] at hblt ⊢
      obtain ⟨bb0, off0, rfl, _, _⟩ := HX0.out (by omega)
      have hR2 : Rw w (.slice (some ⟨bb0, off0, none⟩) l2.length cap) l2 := by
        have h1 := rw_sub HR0.out (i := 0) (k := l2.length) (Nat.zero_le _) (by omega) cap
        rw [List.drop_zero, Nat.sub_zero, Nat.zero_mul, Nat.add_zero] at h1
        rw [← hlen2] at h1 ⊢
        rw [hl2] at h1
        exact h1
      have HR2 := hide hR2
      have HX : Hid (0 < l2.length → ∃ bb off, some (⟨bb0, off0, none⟩ : Addr) = some ⟨bb, off, none⟩ ∧ bb < w.heap.size ∧ True) := hide fun h0 => by
        obtain ⟨p, cp, hv, h2⟩ := hR2
        simp only [Value.slice.injEq] at hv
        obtain ⟨rfl, -, -⟩ := hv
        obtain ⟨b, off, e, h3, _⟩ := h2 h0
        exact ⟨b, off, e, h3, trivial⟩
      have HRB2 : Hid (∀ c ∈ l2, c.rb < 18446744073709551616) := hide fun c hc => HRB.out c (by rw [← hl2] at hc; exact List.mem_of_mem_take hc)
      have HRs : Hid (∀ wr, Below w.heap.size w wr → ∀ bb off, some (⟨bb0, off0, none⟩ : Addr) = some ⟨bb, off, none⟩ → ∀ i k, i ≤ k → k ≤ l2.length → ∀ c', Rw wr (.slice (some ⟨bb, off + i * 10, none⟩) (k - i) c') ((l2.drop i).take (k - i))) := hide fun wr hB bb off e i k hik hk c' => by
        simp only [Option.some.injEq, Addr.mk.injEq, and_true] at e
        obtain ⟨rfl, rfl⟩ := e
        exact rw_sub (HR2.out.below hB (Nat.le_refl _)) hik hk c'
      have HAa := hide hA
      have HSA3 := hide (HSA2.out.below hb3)
      have HSB3 := hide (HSB2.out.below hb3)
      have HB3 := hide (HBx.out.trans (hb3.mono HBx.out.size))
      have HBy := hide (bytes_any HSA3.out HW0.out)
      rw [bys0] at HBy
      have g1 : ¬ ((l2.length : Int) < 0) := by omega
      have g2 : ¬ ((l.length : Int) ≤ (l2.length : Int)) := by omega
      have g3 : (l2.length : Int) ≤ (cap : Int) := by omega
      have hl2b : l2.length ≤ 1353245080301 := by omega
      have hcap2 : l2.length ≤ cap := by omega
      have hHRB := HRB
      clear hbad hA hb3 HAy HSA2 HSB2 HBx HX0 HR0 hR2 hl2 hlen2 HRB hHRB
      have HRB := HRB2
      go_wp2_with fail
      refine HBy.out.mono ?_
      rintro e w4 ⟨rfl, hb4⟩
      have HSA4 := hide (HSA3.out.below hb4)
      have HSB4 := hide (HSB3.out.below hb4)
      have HB4 := hide (HB3.out.trans (hb4.mono HB3.out.size))
      have HAy := hide (apply_any HSA4.out (fun g hg => by rcases HNd.out g hg with rfl | rfl; exact HSA4.out.lt; exact HSB4.out.lt) HNA.out HW0.out (HR2.out.below HB4.out (Nat.le_refl _)) (by omega))
      clear hb4 HBy HSA3 HSB3 HB3
      go_wp2_with fail
      refine HAy.out.mono ?_
      rintro e w5 (⟨h1, _, _⟩ | ⟨s', h1, rfl, hS, hM⟩)
      · rw [HAa.out] at h1; cases h1
      rw [HAa.out, Option.some.injEq] at h1
      subst h1
      have HSa := hide hS
      have HSb := hide (HSB4.out.mv hM HNe2.out HmA.out)
      have HB := hide (HB4.out.trans (hM.below (B := w.heap.size) HB4.out.size (fun g hg => by rw [hg]; exact hblA)))
      clear hS hM HAy HSA4 HSB4 HB4 g1 g2 g3 HR2
      go_wp2_with fail
      go_loopw [14] (fun u wr => ∃ (i : Nat) (sB : Sx), u = .int .i64 (i : Int) ∧ i ≤ l2.length ∧ Hid (app x sx0 (l2.take i) = some sB) ∧ Hid (Sd N wr bB x sB) ∧ Hid (Sd N wr bA x sA) ∧ Hid (Below w.heap.size w wr)) (fun u _ => l2.length - (intOf u).toNat)
      case atStart => exact ⟨0, sx0, rfl, Nat.zero_le _, hide rfl, HSb, HSa, HB⟩
      case round =>
        clear HSb HSa HB
        obtain ⟨i, sB, rfl, hi, HAp, HSb, HSa, HB⟩ := hrel
        by_cases hil : i < l2.length
        · obtain ⟨bb, off, hpv, hlt, hcc⟩ := HX.out (by omega)
          simp only [Option.some.injEq, Addr.mk.injEq, and_true] at hpv
          obtain ⟨rfl, rfl⟩ := hpv
          have hii : (i : Int) < (l2.length : Int) := by omega
          obtain ⟨cz, hcz⟩ : ∃ cz, IntKind.i64.wrap (cut + (i : Int)) = cz := ⟨_, rfl⟩
          have hcb : -9223372036854775808 ≤ cz ∧ cz ≤ 9223372036854775807 := by rw [← hcz, IntKind.wrap_i64]; omega
          have HPl := hide (splace_any (w := wr) (n := cz) (m := 4) (by decide) (by decide) hcb)
          have hpl := Q.pl_lt (n := cz) (m := 4) (by decide)
          generalize Q.pl cz 4 = pz at *
          obtain ⟨k, hk⟩ : ∃ k, min l2.length (i + 1 + pz) = k := ⟨_, rfl⟩
          have hik : i < k := by omega
          have hkl : k ≤ l2.length := by omega
          have hki : min (l2.length : Int) ((i : Int) + 1 + (pz : Int)) = (k : Int) := by omega
          have hki2 : (k : Int) ≤ (l2.length : Int) := by omega
          obtain ⟨sC, hC1, hC2⟩ := app_part (k := k) (Nat.le_of_lt hik) HAa.out HAp.out
          have HC2 := hide hC2
          have hRs := HRs.out wr HB.out bb0 off0 rfl i k (Nat.le_of_lt hik) hkl (cap - i)
          have HAy := hide (apply_any HSb.out (fun g hg => by rcases HNd.out g hg with rfl | rfl; exact HSa.out.lt; exact HSb.out.lt) HNBb.out (app_wf HW0.out (fun c hc => HRB.out c (List.mem_of_mem_take hc)) HAp.out) hRs (by rw [List.length_take, List.length_drop]; omega))
          have HWC := hide (app_wf HW0.out (fun c hc => HRB.out c (List.mem_of_mem_take hc)) hC2)
          have HC1 := hide hC1
          clear hRs hC1 hC2 hcb hk hcc
          go_upto_region 15 with fail
          go_cut [15] (fun u15 wc => u15 = .int .i64 (k : Int) ∧ wr = wc)
          case first =>
            go_wp2_with fail
            refine HPl.out.mono ?_
            rintro e wp ⟨rfl, rfl⟩
            by_cases hle : l2.length ≤ i + 1 + pz
            · have e1 : (l2.length : Int) ≤ (i : Int) + 1 + (pz : Int) := by omega
              have e2 : l2.length = k := by omega
              have e3 : decide ((l2.length : Int) ≤ (i : Int) + 1 + (pz : Int)) = true := decide_eq_true e1
              have e4 : decide ((i : Int) + 1 + (pz : Int) < (l2.length : Int)) = false := decide_eq_false (by omega)
              have HE2 := hide e2
              clear e2 hki hki2 hik hkl
              go_wp2_with fail
              all_goals first | (go_meet; case rel => exact ⟨by rw [HE2.out], rfl⟩) | (exfalso; omega)
            · have e1 : ¬ ((l2.length : Int) ≤ (i : Int) + 1 + (pz : Int)) := by omega
              have e2 : (i : Int) + 1 + (pz : Int) = (k : Int) := by omega
              have e3 : decide ((l2.length : Int) ≤ (i : Int) + 1 + (pz : Int)) = false := decide_eq_false e1
              have e4 : decide ((i : Int) + 1 + (pz : Int) < (l2.length : Int)) = true := decide_eq_true (by omega)
              have HE2 := hide e2
              clear e2 hki hki2 hik hkl
              go_wp2_with fail
              all_goals first | (go_meet; case rel => exact ⟨by rw [HE2.out], rfl⟩) | (exfalso; omega)
          case rest =>
          obtain ⟨rfl, rfl⟩ := hcut
          clear HPl
          have hki3 : (i : Int) ≤ (k : Int) := by omega
          have hki4 : (k : Int) ≤ (cap : Int) := by omega
          go_wp2_with fail
          refine HAy.out.mono ?_
          rintro e w6 (⟨h1, _, _⟩ | ⟨s', h1, rfl, hS, hM⟩)
          · rw [HC1.out] at h1; cases h1
          rw [HC1.out, Option.some.injEq] at h1
          subst h1
          have HSb6 := hide hS
          have HSa6 := hide (HSa.out.mv hM HNe.out HmB.out)
          have HB6 := hide (HB.out.trans (hM.below (B := w.heap.size) HB.out.size (fun g hg => by rw [hg]; exact hbBw)))
          have HBy := hide (bytes_any hS HWC.out)
          have hlen := bys_len HWC.out
          clear hS hM HAy HSb HSa HB
          go_wp2_with fail
          refine HBy.out.mono ?_
          rintro e w7 ⟨rfl, hb7⟩
          have HSb7 := hide (HSb6.out.below hb7)
          have HSa7 := hide (HSa6.out.below hb7)
          have HB7 := hide (HB6.out.trans (hb7.mono HB6.out.size))
          have hsz : (⟨(bys sC).toArray⟩ : ByteArray).size = (bys sC).length := by simp [ByteArray.size]
          have hsz2 : ¬ ((17000 : Int) < (((⟨(bys sC).toArray⟩ : ByteArray).size : Nat) : Int)) := by rw [hsz]; omega
          have hsz3 : decide ((17000 : Int) < (((⟨(bys sC).toArray⟩ : ByteArray).size : Nat) : Int)) = false := decide_eq_false hsz2
          generalize (⟨(bys sC).toArray⟩ : ByteArray) = BZ at *
          clear hb7 HBy HSb6 HSa6 HB6 hsz hlen
          go_wp2_with fail
          go_roundw
          case rel => exact ⟨k, sC, rfl, hkl, HC2, HSb7, HSa7, HB7⟩
          case measure => simp only [intOf]; omega
        · obtain rfl : i = l2.length := by omega
          have hii : ¬ ((l2.length : Int) < (l2.length : Int)) := by omega
          have hEq : sB = sA := by
            have h1 := HAp.out
            rw [List.take_length, HAa.out, Option.some.injEq] at h1
            exact h1.symm
          subst hEq
          have HWA := hide (app_wf HW0.out HRB.out HAa.out)
          have HBa := hide (bytes_any HSa.out HWA.out)
          clear HAp
          go_wp2_with fail
          refine HBa.out.mono ?_
          rintro e w6 ⟨rfl, hb6⟩
          have HSb6 := hide (HSb.out.below hb6)
          have HSa6 := hide (HSa.out.below hb6)
          have HB6 := hide (HB.out.trans (hb6.mono HB.out.size))
          have HBb := hide (bytes_any HSb6.out HWA.out)
          clear hb6 HBa HSb HSa HB
          go_wp2_with fail
          refine HBb.out.mono ?_
          rintro e w7 ⟨rfl, hb7⟩
          have HSb7 := hide (HSb6.out.below hb7)
          have HSa7 := hide (HSa6.out.below hb7)
          have HB7 := hide (HB6.out.trans (hb7.mono HB6.out.size))
          have HVa := hide (view_any HSa7.out HWA.out)
          generalize (⟨(bys sB).toArray⟩ : ByteArray) = BZ at *
          clear hb7 HBb HSb6 HSa6 HB6
          go_wp2_with fail
          refine HVa.out.mono ?_
          rintro e w8 ⟨vj1, J1, rfl, hJ1, hn1, hv1, hb8⟩
          have HSb8 := hide (HSb7.out.below hb8)
          have HB8 := hide (HB7.out.trans (hb8.mono HB7.out.size))
          have HVb := hide (view_any HSb8.out HWA.out)
          have HJ1 := hide hJ1
          have HN1 := hide (And.intro hn1 hv1)
          clear hb8 HVa HSa7 HSb7 HB7 hJ1 hn1 hv1
          go_wp2_with fail
          refine HVb.out.mono ?_
          rintro e w9 ⟨vj2, J2, rfl, hJ2, hn2, hv2, hb9⟩
          have HB9 := hide (HB8.out.trans (hb9.mono HB8.out.size))
          have HSm := hide (view_alike (rs := sB.res) (HJ1.out.below hb9) hJ2 HWA.out HN1.out.1 hn2 HN1.out.2 hv2)
          clear hb9 HVb HB8 HSb8 HJ1 HN1 hJ2 hn2 hv2
          go_wp2_with fail
          refine HSm.out.mono ?_
          rintro e w10 ⟨rfl, hb10⟩
          have HB10 := hide (HB9.out.trans (hb10.mono HB9.out.size))
          clear hb10 HSm HB9
          go_wp2_with fail
          refine (sfixed_any _).mono ?_
          rintro e w11 ⟨rfl, hb11⟩
          have HB11 := hide (HB10.out.trans (hb11.mono HB10.out.size))
          clear hb11 HB10
          go_wp2_with fail
          go_ret
          exact ⟨rfl, HB11.out⟩
    · have HAa := hide hAa
      have HSa := hide hS
      have HSb := hide (HSB2.out.mv hM HNe2.out HmA.out)
      have HB := hide (HBx.out.trans (hM.below (B := w.heap.size) HBx.out.size (fun g hg => by rw [hg]; exact hblA)))
      have HX := HX0
      have HRs : Hid (∀ wr, Below w.heap.size w wr → ∀ bb off, pv = some ⟨bb, off, none⟩ → ∀ i k, i ≤ k → k ≤ l.length → ∀ c', Rw wr (.slice (some ⟨bb, off + i * 10, none⟩) (k - i) c') ((l.drop i).take (k - i))) := hide fun wr hB bb off e i k hik hk c' => by
        subst e
        exact rw_sub (HR0.out.below hB (Nat.le_refl _)) hik hk c'
      clear hAa hS hM HAy HSB2 HSA2 HBx HX0 HR0
      go_wp2_with fail
      go_loopw [14] (fun u wr => ∃ (i : Nat) (sB : Sx), u = .int .i64 (i : Int) ∧ i ≤ l.length ∧ Hid (app x sx0 (l.take i) = some sB) ∧ Hid (Sd N wr bB x sB) ∧ Hid (Sd N wr bA x sA) ∧ Hid (Below w.heap.size w wr)) (fun u _ => l.length - (intOf u).toNat)
      case atStart => exact ⟨0, sx0, rfl, Nat.zero_le _, hide rfl, HSb, HSa, HB⟩
      case round =>
        clear HSb HSa HB
        obtain ⟨i, sB, rfl, hi, HAp, HSb, HSa, HB⟩ := hrel
        by_cases hil : i < l.length
        · obtain ⟨bb, off, hpv, hlt, hcc⟩ := HX.out (by omega)
          subst hpv
          have hii : (i : Int) < (l.length : Int) := by omega
          obtain ⟨cz, hcz⟩ : ∃ cz, IntKind.i64.wrap (cut + (i : Int)) = cz := ⟨_, rfl⟩
          have hcb : -9223372036854775808 ≤ cz ∧ cz ≤ 9223372036854775807 := by rw [← hcz, IntKind.wrap_i64]; omega
          have HPl := hide (splace_any (w := wr) (n := cz) (m := 4) (by decide) (by decide) hcb)
          have hpl := Q.pl_lt (n := cz) (m := 4) (by decide)
          generalize Q.pl cz 4 = pz at *
          obtain ⟨k, hk⟩ : ∃ k, min l.length (i + 1 + pz) = k := ⟨_, rfl⟩
          have hik : i < k := by omega
          have hkl : k ≤ l.length := by omega
          have hki : min (l.length : Int) ((i : Int) + 1 + (pz : Int)) = (k : Int) := by omega
          have hki2 : (k : Int) ≤ (l.length : Int) := by omega
          obtain ⟨sC, hC1, hC2⟩ := app_part (k := k) (Nat.le_of_lt hik) HAa.out HAp.out
          have HC2 := hide hC2
          have hRs := HRs.out wr HB.out bb off rfl i k (Nat.le_of_lt hik) hkl (cap - i)
          have HAy := hide (apply_any HSb.out (fun g hg => by rcases HNd.out g hg with rfl | rfl; exact HSa.out.lt; exact HSb.out.lt) HNBb.out (app_wf HW0.out (fun c hc => HRB.out c (List.mem_of_mem_take hc)) HAp.out) hRs (by rw [List.length_take, List.length_drop]; omega))
          have HWC := hide (app_wf HW0.out (fun c hc => HRB.out c (List.mem_of_mem_take hc)) hC2)
          have HC1 := hide hC1
          clear hRs hC1 hC2 hcb hk hcc
          go_upto_region 15 with fail
          go_cut [15] (fun u15 wc => u15 = .int .i64 (k : Int) ∧ wr = wc)
          case first =>
            go_wp2_with fail
            refine HPl.out.mono ?_
            rintro e wp ⟨rfl, rfl⟩
            by_cases hle : l.length ≤ i + 1 + pz
            · have e1 : (l.length : Int) ≤ (i : Int) + 1 + (pz : Int) := by omega
              have e2 : l.length = k := by omega
              have e3 : decide ((l.length : Int) ≤ (i : Int) + 1 + (pz : Int)) = true := decide_eq_true e1
              have e4 : decide ((i : Int) + 1 + (pz : Int) < (l.length : Int)) = false := decide_eq_false (by omega)
              have HE2 := hide e2
              clear e2 hki hki2 hik hkl
              go_wp2_with fail
              all_goals first | (go_meet; case rel => exact ⟨by rw [HE2.out], rfl⟩) | (exfalso; omega)
            · have e1 : ¬ ((l.length : Int) ≤ (i : Int) + 1 + (pz : Int)) := by omega
              have e2 : (i : Int) + 1 + (pz : Int) = (k : Int) := by omega
              have e3 : decide ((l.length : Int) ≤ (i : Int) + 1 + (pz : Int)) = false := decide_eq_false e1
              have e4 : decide ((i : Int) + 1 + (pz : Int) < (l.length : Int)) = true := decide_eq_true (by omega)
              have HE2 := hide e2
              clear e2 hki hki2 hik hkl
              go_wp2_with fail
              all_goals first | (go_meet; case rel => exact ⟨by rw [HE2.out], rfl⟩) | (exfalso; omega)
          case rest =>
          obtain ⟨rfl, rfl⟩ := hcut
          clear HPl
          have hki3 : (i : Int) ≤ (k : Int) := by omega
          have hki4 : (k : Int) ≤ (cap : Int) := by omega
          go_wp2_with fail
          refine HAy.out.mono ?_
          rintro e w6 (⟨h1, _, _⟩ | ⟨s', h1, rfl, hS, hM⟩)
          · rw [HC1.out] at h1; cases h1
          rw [HC1.out, Option.some.injEq] at h1
          subst h1
          have HSb6 := hide hS
          have HSa6 := hide (HSa.out.mv hM HNe.out HmB.out)
          have HB6 := hide (HB.out.trans (hM.below (B := w.heap.size) HB.out.size (fun g hg => by rw [hg]; exact hbBw)))
          have HBy := hide (bytes_any hS HWC.out)
          have hlen := bys_len HWC.out
          clear hS hM HAy HSb HSa HB
          go_wp2_with fail
          refine HBy.out.mono ?_
          rintro e w7 ⟨rfl, hb7⟩
          have HSb7 := hide (HSb6.out.below hb7)
          have HSa7 := hide (HSa6.out.below hb7)
          have HB7 := hide (HB6.out.trans (hb7.mono HB6.out.size))
          have hsz : (⟨(bys sC).toArray⟩ : ByteArray).size = (bys sC).length := by simp [ByteArray.size]
          have hsz2 : ¬ ((17000 : Int) < (((⟨(bys sC).toArray⟩ : ByteArray).size : Nat) : Int)) := by rw [hsz]; omega
          have hsz3 : decide ((17000 : Int) < (((⟨(bys sC).toArray⟩ : ByteArray).size : Nat) : Int)) = false := decide_eq_false hsz2
          generalize (⟨(bys sC).toArray⟩ : ByteArray) = BZ at *
          clear hb7 HBy HSb6 HSa6 HB6 hsz hlen
          go_wp2_with fail
          go_roundw
          case rel => exact ⟨k, sC, rfl, hkl, HC2, HSb7, HSa7, HB7⟩
          case measure => simp only [intOf]; omega
        · obtain rfl : i = l.length := by omega
          have hii : ¬ ((l.length : Int) < (l.length : Int)) := by omega
          have hEq : sB = sA := by
            have h1 := HAp.out
            rw [List.take_length, HAa.out, Option.some.injEq] at h1
            exact h1.symm
          subst hEq
          have HWA := hide (app_wf HW0.out HRB.out HAa.out)
          have HBa := hide (bytes_any HSa.out HWA.out)
          clear HAp
          go_wp2_with fail
          refine HBa.out.mono ?_
          rintro e w6 ⟨rfl, hb6⟩
          have HSb6 := hide (HSb.out.below hb6)
          have HSa6 := hide (HSa.out.below hb6)
          have HB6 := hide (HB.out.trans (hb6.mono HB.out.size))
          have HBb := hide (bytes_any HSb6.out HWA.out)
          clear hb6 HBa HSb HSa HB
          go_wp2_with fail
          refine HBb.out.mono ?_
          rintro e w7 ⟨rfl, hb7⟩
          have HSb7 := hide (HSb6.out.below hb7)
          have HSa7 := hide (HSa6.out.below hb7)
          have HB7 := hide (HB6.out.trans (hb7.mono HB6.out.size))
          have HVa := hide (view_any HSa7.out HWA.out)
          generalize (⟨(bys sB).toArray⟩ : ByteArray) = BZ at *
          clear hb7 HBb HSb6 HSa6 HB6
          go_wp2_with fail
          refine HVa.out.mono ?_
          rintro e w8 ⟨vj1, J1, rfl, hJ1, hn1, hv1, hb8⟩
          have HSb8 := hide (HSb7.out.below hb8)
          have HB8 := hide (HB7.out.trans (hb8.mono HB7.out.size))
          have HVb := hide (view_any HSb8.out HWA.out)
          have HJ1 := hide hJ1
          have HN1 := hide (And.intro hn1 hv1)
          clear hb8 HVa HSa7 HSb7 HB7 hJ1 hn1 hv1
          go_wp2_with fail
          refine HVb.out.mono ?_
          rintro e w9 ⟨vj2, J2, rfl, hJ2, hn2, hv2, hb9⟩
          have HB9 := hide (HB8.out.trans (hb9.mono HB8.out.size))
          have HSm := hide (view_alike (rs := sB.res) (HJ1.out.below hb9) hJ2 HWA.out HN1.out.1 hn2 HN1.out.2 hv2)
          clear hb9 HVb HB8 HSb8 HJ1 HN1 hJ2 hn2 hv2
          go_wp2_with fail
          refine HSm.out.mono ?_
          rintro e w10 ⟨rfl, hb10⟩
          have HB10 := hide (HB9.out.trans (hb10.mono HB9.out.size))
          clear hb10 HSm HB9
          go_wp2_with fail
          refine (sfixed_any _).mono ?_
          rintro e w11 ⟨rfl, hb11⟩
          have HB11 := hide (HB10.out.trans (hb11.mono HB10.out.size))
          clear hb11 HB10
          go_wp2_with fail
          go_ret
          exact ⟨rfl, HB11.out⟩
end Go.Proofs.Ytlajlggoakgmgaa.S
end
