import Derived.Test.YtepondcflkledaaGreatMgBC
import Derived.Test.YtepondcflkledaaGreatMgBD
import Derived.Deep.DeepCutAuto

section
namespace Go.Proofs.YtepondcflkledaaGreat.S
set_option maxRecDepth 20000
open Go.RowKit
open Rc (Ch)
open Q (Rr rr0 Qm Ft Mv fnd)

/-- changes as they lie in a row -/
def ccs (q : List (Ch × Value)) : List Value := q.flatMap fun x => (chC x.1 x.2).toList
theorem ccs_get (l : List (Ch × Value)) (i k : Nat) (hi : i < l.length) (hk : k < 10) : (ccs l)[i * 10 + k]? = (chC (l[i]).1 (l[i]).2)[k]? := by
  induction l generalizing i with
  | nil => simp at hi
  | cons j l ih =>
    have e : ccs (j :: l) = (chC j.1 j.2).toList ++ ccs l := by simp [ccs]
    have h10 : (chC j.1 j.2).toList.length = 10 := rfl
    rw [e]
    cases i with
    | zero => rw [List.getElem?_append_left (by omega)]; simp
    | succ i =>
      rw [List.getElem?_append_right (by omega), h10, show (i + 1) * 10 + k - 10 = i * 10 + k by omega, ih i (by simpa using hi)]
      simp
theorem rw_of {w : World} {g : Nat} {T : TypeId} {q : List (Ch × Value)} (h : w.heap[g]? = some (.cells (ccs q).toArray T (0, 0))) (ht : ∀ x ∈ q, Tx w x.2 x.1.tx ∧ x.1.tx.length ≤ 140737488351232 ∧ x.1.rb < 18446744073709551616) :
    Rw w (.slice (some ⟨g, 0, none⟩) (q.map Prod.fst).length (q.map Prod.fst).length) (q.map Prod.fst) := by
  refine ⟨_, _, rfl, fun _ => ⟨g, 0, rfl, lt_of_block h, fun j hj => ?_⟩⟩
  have hj' : j < q.length := by simpa using hj
  have hm := ht q[j] (List.getElem_mem hj')
  have e : (q.map Prod.fst)[j]! = (q[j]).1 := by rw [getElem!_pos _ j hj, List.getElem_map]
  rw [e]
  refine ⟨(q[j]).2, hm.1, hm.2.1, hm.2.2, fun i u hu => ?_⟩
  have hi : i < 10 := (Array.getElem?_eq_some_iff.1 hu).1
  rw [Nat.zero_add]
  simp only [World.cell?, h]
  have := ccs_get q j i hj' hi
  rw [hu] at this
  simpa using this
theorem bys0 : bys sx0 = [0, 0] := by
  unfold bys
  show encs [0, 0] ++ [] = _
  simp [encs, Pk.enc_lt]
def c4a : Ch := ⟨2, 0, 1, 0, 0, 0, 0, 0, ⟨#[112]⟩, []⟩
def c4b : Ch := ⟨1, 4, 0, 0, 0, 0, 0, 0, ⟨#[]⟩, []⟩
def c4c : Ch := ⟨3, 0, 1, 2, 0, 1, 0, 0, ⟨#[]⟩, []⟩
def c4d : Ch := ⟨4, 0, 0, 2, 0, 0, 0, 0, ⟨#[]⟩, [⟨#[97]⟩, ⟨#[98]⟩]⟩
def c2a : Ch := ⟨1, 9, 0, 0, 0, 0, 0, 0, ⟨#[]⟩, []⟩
def s4 : Sx := ⟨4, [⟨1, 2, 1, 2, 2, 1, 0, 0⟩], ⟨⟨#[112]⟩, [⟨#[97]⟩, ⟨#[98]⟩]⟩ :: List.replicate 7 pp0⟩
theorem app4 : app 1 sx0 [c4a, c4b, c4c, c4d] = some s4 := by rfl
theorem app2 : app 1 s4 [c2a, c4b] = none := by rfl
theorem bad2 : bad 1 s4 [c2a, c4b] = 1 := by rfl
theorem fnd4 : fnd 2 s4.L = ⟨1, 2, 1, 2, 2, 1, 0, 0⟩ := by rfl
set_option maxHeartbeats 2000000 in
set_option maxRecDepth 20000 in
theorem sfixed_any (w : World) : Calls Tryz.prog 9 #[] w fun e w' => e = .returned (.bool true) ∧ Below w.heap.size w w' := by
  have HNw := hide (new_any w 1)
  go_enter Tryz.func9, Tryz.ntmps9
  go_wp2_with fail
  refine HNw.out.mono ?_
  rintro e w1 (⟨h1, _⟩ | ⟨b, h1, hok, rfl, hbl, hsd, hb1⟩)
  · exact absurd (by decide) h1
  have hs1 := hsd (fun g => g = b) (fun g hg => .inr hg)
  have H1 := hide hs1
  have HB1 := hide hb1
  have HW0 := hide (wf0 hok)
  have HBy := hide (bytes_any hs1 (wf0 hok))
  have hbw := hs1.lt
  rw [bys0] at HBy
  clear hs1 hb1 hsd h1 hok HNw
  go_wp2_with fail
  refine HBy.out.mono ?_
  rintro e w2 ⟨rfl, hb2⟩
  have H2 := hide (H1.out.below hb2)
  have HB2 := hide (HB1.out.trans (hb2.mono HB1.out.size))
  have hbw2 : b < w2.heap.size := H2.out.lt
  clear hb2 H1 HB1 HBy
  have hsz2 := HB2.out.size
  have hsA := World.size_alloc w2 (.cells #[.string ⟨#[97]⟩, .string ⟨#[98]⟩] 9)
  have hbA := below_alloc w2 (.cells #[.string ⟨#[97]⟩, .string ⟨#[98]⟩] 9)
  have hnA := heap_alloc_new w2 (.cells #[.string ⟨#[97]⟩, .string ⟨#[98]⟩] 9)
  have hbB := below_alloc (w2.alloc (.cells #[.string ⟨#[97]⟩, .string ⟨#[98]⟩] 9)) (.cells #[.int .i64 2, .int .i64 0, .int .i64 1, .int .i64 0, .int .i64 0, .int .i64 0, .int .i64 0, .int .u64 0, .string ⟨#[112]⟩, .slice none 0 0, .int .i64 1, .int .i64 4, .int .i64 0, .int .i64 0, .int .i64 0, .int .i64 0, .int .i64 0, .int .u64 0, .string ⟨#[]⟩, .slice none 0 0, .int .i64 3, .int .i64 0, .int .i64 1, .int .i64 2, .int .i64 0, .int .i64 1, .int .i64 0, .int .u64 0, .string ⟨#[]⟩, .slice none 0 0, .int .i64 4, .int .i64 0, .int .i64 0, .int .i64 2, .int .i64 0, .int .i64 0, .int .i64 0, .int .u64 0, .string ⟨#[]⟩, .slice (some ⟨w2.heap.size, 0, none⟩) 2 2] 78)
  have hnB := heap_alloc_new (w2.alloc (.cells #[.string ⟨#[97]⟩, .string ⟨#[98]⟩] 9)) (.cells #[.int .i64 2, .int .i64 0, .int .i64 1, .int .i64 0, .int .i64 0, .int .i64 0, .int .i64 0, .int .u64 0, .string ⟨#[112]⟩, .slice none 0 0, .int .i64 1, .int .i64 4, .int .i64 0, .int .i64 0, .int .i64 0, .int .i64 0, .int .i64 0, .int .u64 0, .string ⟨#[]⟩, .slice none 0 0, .int .i64 3, .int .i64 0, .int .i64 1, .int .i64 2, .int .i64 0, .int .i64 1, .int .i64 0, .int .u64 0, .string ⟨#[]⟩, .slice none 0 0, .int .i64 4, .int .i64 0, .int .i64 0, .int .i64 2, .int .i64 0, .int .i64 0, .int .i64 0, .int .u64 0, .string ⟨#[]⟩, .slice (some ⟨w2.heap.size, 0, none⟩) 2 2] 78)
  rw [hsA] at hnB
  have hA3 := (hbB.block _ (by omega)).trans hnA
  have hT : Tx ((w2.alloc (.cells #[.string ⟨#[97]⟩, .string ⟨#[98]⟩] 9)).alloc (.cells #[.int .i64 2, .int .i64 0, .int .i64 1, .int .i64 0, .int .i64 0, .int .i64 0, .int .i64 0, .int .u64 0, .string ⟨#[112]⟩, .slice none 0 0, .int .i64 1, .int .i64 4, .int .i64 0, .int .i64 0, .int .i64 0, .int .i64 0, .int .i64 0, .int .u64 0, .string ⟨#[]⟩, .slice none 0 0, .int .i64 3, .int .i64 0, .int .i64 1, .int .i64 2, .int .i64 0, .int .i64 1, .int .i64 0, .int .u64 0, .string ⟨#[]⟩, .slice none 0 0, .int .i64 4, .int .i64 0, .int .i64 0, .int .i64 2, .int .i64 0, .int .i64 0, .int .i64 0, .int .u64 0, .string ⟨#[]⟩, .slice (some ⟨w2.heap.size, 0, none⟩) 2 2] 78)) (.slice (some ⟨w2.heap.size, 0, none⟩) 2 2) [⟨#[97]⟩, ⟨#[98]⟩] := ⟨_, 2, rfl, fun _ => ⟨w2.heap.size, 0, rfl, lt_of_block hA3, fun j hj => by
    have h2 : j = 0 ∨ j = 1 := by have h3 : j < 2 := hj; omega
    rcases h2 with rfl | rfl <;> simp [World.cell?, hA3]⟩⟩
  have hRw : Rw ((w2.alloc (.cells #[.string ⟨#[97]⟩, .string ⟨#[98]⟩] 9)).alloc (.cells #[.int .i64 2, .int .i64 0, .int .i64 1, .int .i64 0, .int .i64 0, .int .i64 0, .int .i64 0, .int .u64 0, .string ⟨#[112]⟩, .slice none 0 0, .int .i64 1, .int .i64 4, .int .i64 0, .int .i64 0, .int .i64 0, .int .i64 0, .int .i64 0, .int .u64 0, .string ⟨#[]⟩, .slice none 0 0, .int .i64 3, .int .i64 0, .int .i64 1, .int .i64 2, .int .i64 0, .int .i64 1, .int .i64 0, .int .u64 0, .string ⟨#[]⟩, .slice none 0 0, .int .i64 4, .int .i64 0, .int .i64 0, .int .i64 2, .int .i64 0, .int .i64 0, .int .i64 0, .int .u64 0, .string ⟨#[]⟩, .slice (some ⟨w2.heap.size, 0, none⟩) 2 2] 78)) (.slice (some ⟨w2.heap.size + 1, 0, none⟩) 4 4) [c4a, c4b, c4c, c4d] := rw_of (q := [(c4a, .slice none 0 0), (c4b, .slice none 0 0), (c4c, .slice none 0 0), (c4d, .slice (some ⟨w2.heap.size, 0, none⟩) 2 2)]) hnB (by
    intro x hx
    simp only [List.mem_cons, List.not_mem_nil, or_false] at hx
    rcases hx with rfl | rfl | rfl | rfl
    · exact ⟨Tx.nil _, by decide, by decide⟩
    · exact ⟨Tx.nil _, by decide, by decide⟩
    · exact ⟨Tx.nil _, by decide, by decide⟩
    · exact ⟨hT, by show c4d.tx.length ≤ _; decide, by show c4d.rb < _; decide⟩)
  have hS3 := (H2.out.below hbA).below hbB
  have HB3 : Hid (Below w.heap.size w ((w2.alloc (.cells #[.string ⟨#[97]⟩, .string ⟨#[98]⟩] 9)).alloc (.cells #[.int .i64 2, .int .i64 0, .int .i64 1, .int .i64 0, .int .i64 0, .int .i64 0, .int .i64 0, .int .u64 0, .string ⟨#[112]⟩, .slice none 0 0, .int .i64 1, .int .i64 4, .int .i64 0, .int .i64 0, .int .i64 0, .int .i64 0, .int .i64 0, .int .u64 0, .string ⟨#[]⟩, .slice none 0 0, .int .i64 3, .int .i64 0, .int .i64 1, .int .i64 2, .int .i64 0, .int .i64 1, .int .i64 0, .int .u64 0, .string ⟨#[]⟩, .slice none 0 0, .int .i64 4, .int .i64 0, .int .i64 0, .int .i64 2, .int .i64 0, .int .i64 0, .int .i64 0, .int .u64 0, .string ⟨#[]⟩, .slice (some ⟨w2.heap.size, 0, none⟩) 2 2] 78))) := hide ((HB2.out.alloc hsz2 _).alloc (by omega) _)
  have HAp := hide (apply_any hS3 (fun g hg => by rw [show g = b from hg]; exact hS3.lt) rfl HW0.out hRw (by decide))
  have hsB : ((w2.alloc (.cells #[.string ⟨#[97]⟩, .string ⟨#[98]⟩] 9)).alloc (.cells #[.int .i64 2, .int .i64 0, .int .i64 1, .int .i64 0, .int .i64 0, .int .i64 0, .int .i64 0, .int .u64 0, .string ⟨#[112]⟩, .slice none 0 0, .int .i64 1, .int .i64 4, .int .i64 0, .int .i64 0, .int .i64 0, .int .i64 0, .int .i64 0, .int .u64 0, .string ⟨#[]⟩, .slice none 0 0, .int .i64 3, .int .i64 0, .int .i64 1, .int .i64 2, .int .i64 0, .int .i64 1, .int .i64 0, .int .u64 0, .string ⟨#[]⟩, .slice none 0 0, .int .i64 4, .int .i64 0, .int .i64 0, .int .i64 2, .int .i64 0, .int .i64 0, .int .i64 0, .int .u64 0, .string ⟨#[]⟩, .slice (some ⟨w2.heap.size, 0, none⟩) 2 2] 78)).heap.size = w2.heap.size + 1 + 1 := by rw [World.size_alloc, hsA]
  clear hnA hnB hA3 hT hRw hS3 hbA hbB hsA H2 HB2
  go_wp2_with fail
  refine HAp.out.mono ?_
  rintro e w3 (⟨h1, _, _⟩ | ⟨s', h1, rfl, hS, hM⟩)
  · rw [app4] at h1; cases h1
  rw [app4, Option.some.injEq] at h1
  subst h1
  have H3 := hide hS
  have HB4 := hide (HB3.out.trans (hM.below (B := w.heap.size) HB3.out.size (fun g hg => by rw [hg]; exact hbl)))
  have HW4 : Hid (Wf 1 s4) := hide (app_wf HW0.out (by intro c hc; simp at hc; rcases hc with rfl | rfl | rfl | rfl <;> decide) app4)
  have hsz3 := HB4.out.size
  clear hS hM HAp HB3 HW0 hsB hsz2
  have hbC := below_alloc w3 (.cells #[.int .i64 1, .int .i64 9, .int .i64 0, .int .i64 0, .int .i64 0, .int .i64 0, .int .i64 0, .int .u64 0, .string ⟨#[]⟩, .slice none 0 0, .int .i64 1, .int .i64 4, .int .i64 0, .int .i64 0, .int .i64 0, .int .i64 0, .int .i64 0, .int .u64 0, .string ⟨#[]⟩, .slice none 0 0] 78)
  have hnC := heap_alloc_new w3 (.cells #[.int .i64 1, .int .i64 9, .int .i64 0, .int .i64 0, .int .i64 0, .int .i64 0, .int .i64 0, .int .u64 0, .string ⟨#[]⟩, .slice none 0 0, .int .i64 1, .int .i64 4, .int .i64 0, .int .i64 0, .int .i64 0, .int .i64 0, .int .i64 0, .int .u64 0, .string ⟨#[]⟩, .slice none 0 0] 78)
  have hR2 : Rw (w3.alloc (.cells #[.int .i64 1, .int .i64 9, .int .i64 0, .int .i64 0, .int .i64 0, .int .i64 0, .int .i64 0, .int .u64 0, .string ⟨#[]⟩, .slice none 0 0, .int .i64 1, .int .i64 4, .int .i64 0, .int .i64 0, .int .i64 0, .int .i64 0, .int .i64 0, .int .u64 0, .string ⟨#[]⟩, .slice none 0 0] 78)) (.slice (some ⟨w3.heap.size, 0, none⟩) 2 2) [c2a, c4b] := rw_of (q := [(c2a, .slice none 0 0), (c4b, .slice none 0 0)]) hnC (by
    intro x hx
    simp only [List.mem_cons, List.not_mem_nil, or_false] at hx
    rcases hx with rfl | rfl
    · exact ⟨Tx.nil _, by decide, by decide⟩
    · exact ⟨Tx.nil _, by decide, by decide⟩)
  have hS4 := H3.out.below hbC
  have H4 := hide hS4
  have HB5 : Hid (Below w.heap.size w (w3.alloc (.cells #[.int .i64 1, .int .i64 9, .int .i64 0, .int .i64 0, .int .i64 0, .int .i64 0, .int .i64 0, .int .u64 0, .string ⟨#[]⟩, .slice none 0 0, .int .i64 1, .int .i64 4, .int .i64 0, .int .i64 0, .int .i64 0, .int .i64 0, .int .i64 0, .int .u64 0, .string ⟨#[]⟩, .slice none 0 0] 78))) := hide (HB4.out.alloc hsz3 _)
  have HAp := hide (apply_any hS4 (fun g hg => by rw [show g = b from hg]; exact hS4.lt) rfl HW4.out hR2 (by decide))
  clear hnC hR2 hS4 hbC H3 HB4
  go_wp2_with fail
  refine HAp.out.mono ?_
  rintro e w4 (⟨h1, rfl, hb4⟩ | ⟨s', h1, _, _, _⟩)
  rotate_left
  · rw [app2] at h1; cases h1
  rw [bad2]
  have H5 := hide (H4.out.below hb4)
  have HB6 := hide (HB5.out.trans (hb4.mono HB5.out.size))
  have HFi := hide (find_any H5.out HW4.out 2)
  clear h1 hb4 HAp H4 HB5
  go_wp2_with fail
  refine HFi.out.mono ?_
  rintro e w5 (⟨h1, _, _⟩ | ⟨i, t, _, hi, _, rfl, ho, hb5⟩)
  · rw [fnd4] at h1; exact absurd h1 (by decide)
  obtain rfl : i = 0 := by have h3 : i < 1 := hi; omega
  rw [fnd4]
  have hpl : s4.pa 0 = ⟨⟨#[112]⟩, [⟨#[97]⟩, ⟨#[98]⟩]⟩ := rfl
  rw [hpl] at ho ⊢
  have hTt := tx_own ho
  obtain ⟨pt, ct, rfl⟩ := own_slice ho
  have hptx := hTt.form
  obtain ⟨pt', ct', he, hc⟩ := hptx
  simp only [Value.slice.injEq] at he
  obtain ⟨rfl, -, rfl⟩ := he
  obtain ⟨tb, tf, rfl, htl, htc⟩ := hc (by show 0 < 2; decide)
  have t1 : w5.cell? ⟨tb, tf + 1, none⟩ = some (.string ⟨#[98]⟩) := htc 1 (by show 1 < 2; decide)
  have H6 := hide (H5.out.below hb5)
  have HB7 := hide (HB6.out.trans (hb5.mono HB6.out.size))
  have hsz5 := HB7.out.size
  clear ho hTt hc htc hb5 HFi H5 HB6 hi
  simp only [plC]
  have hlen2 : ([⟨#[97]⟩, ⟨#[98]⟩] : List ByteArray).length = 2 := rfl
  simp only [hlen2]
  have HRe := hide (reserved_any (H6.out.below (below_alloc w5 (.cells (plC ⟨1, 2, 1, 2, 2, 1, 0, 0⟩ ⟨#[112]⟩ (.slice (some ⟨tb, tf, none⟩) 2 ct)) 84))))
  have HB8 : Hid (Below w.heap.size w (w5.alloc (.cells (plC ⟨1, 2, 1, 2, 2, 1, 0, 0⟩ ⟨#[112]⟩ (.slice (some ⟨tb, tf, none⟩) 2 ct)) 84))) := hide (HB7.out.alloc hsz5 _)
  have t2 : (w5.alloc (.cells (plC ⟨1, 2, 1, 2, 2, 1, 0, 0⟩ ⟨#[112]⟩ (.slice (some ⟨tb, tf, none⟩) 2 ct)) 84)).cell? ⟨tb, tf + 1, none⟩ = some (.string ⟨#[98]⟩) := Lib.cell?_alloc_some _ t1
  simp only [plC] at HRe HB8 t2
  clear H6 HB7 t1
  go_wp2_with fail
  refine HRe.out.mono ?_
  rintro e w6 ⟨rfl, rfl⟩
  have hr4 : s4.res = 4 := rfl
  rw [hr4]
  clear HRe
  go_wp2_with fail
  go_ret
  exact ⟨rfl, HB8.out⟩
end Go.Proofs.YtepondcflkledaaGreat.S
end

section
namespace Go.Proofs.YtepondcflkledaaGreat.S
set_option maxRecDepth 20000
open Go.RowKit
open Rc (Ch)
open Q (Rr rr0 Qm Ft Mv)

set_option maxHeartbeats 400000 in
theorem splace_any {w : World} {n : Int} {m : Nat} (h0 : 0 < m) (h1 : m ≤ 1000) (_ : -9223372036854775808 ≤ n ∧ n ≤ 9223372036854775807) :
    Calls Tryz.prog 18 #[.int .i64 n, .int .i64 (m : Int)] w fun e w' => e = .returned (.int .i64 (Q.pl n m : Int)) ∧ w' = w := by
  have ht1 : n.tmod (m : Int) < (m : Int) := Int.tmod_lt_of_pos _ (by omega)
  have ht2 : -(m : Int) < n.tmod (m : Int) := Int.lt_tmod_of_pos _ (by omega)
  have hz : (m : Int) ≠ 0 := by omega
  have hz1 : (m : Int) ≠ -1 := by omega
  unfold Q.pl
  generalize ht : n.tmod (m : Int) = t at *
  obtain ⟨r, hr⟩ : ∃ r : Int, (((if t < 0 then t + m else t).toNat : Nat) : Int) = r := ⟨_, rfl⟩
  rw [hr]
  by_cases h : t < 0
  · have b0 : decide (t < 0) = true := by simpa using h
    have HR : Hid (r = t + m) := by rw [if_pos h] at hr; show r = t + m; omega
    clear hr
    go_enter Tryz.func18, Tryz.ntmps18
    go_wp2
    go_ret
    rw [HR.out]
    exact ⟨rfl, rfl⟩
  · have b0 : decide (t < 0) = false := by simpa using h
    have HR : Hid (r = t) := by rw [if_neg h] at hr; show r = t; omega
    clear hr
    go_enter Tryz.func18, Tryz.ntmps18
    go_wp2
    go_ret
    rw [HR.out]
    exact ⟨rfl, rfl⟩

/-- a part of a row -/
theorem rw_sub {w : World} {bb off cap : Nat} {l : List Ch} (h : Rw w (.slice (some ⟨bb, off, none⟩) l.length cap) l) {i k : Nat} (hik : i ≤ k) (hk : k ≤ l.length) (c' : Nat) : Rw w (.slice (some ⟨bb, off + i * 10, none⟩) (k - i) c') ((l.drop i).take (k - i)) := by
  obtain ⟨p, cp, hv, h2⟩ := h
  simp only [Value.slice.injEq] at hv
  obtain ⟨rfl, -, rfl⟩ := hv
  have hlen : ((l.drop i).take (k - i)).length = k - i := by rw [List.length_take, List.length_drop]; omega
  refine ⟨some ⟨bb, off + i * 10, none⟩, c', by rw [hlen], fun h0 => ?_⟩
  rw [hlen] at h0
  obtain ⟨b', off', e, hlt, hc⟩ := h2 (by omega)
  simp only [Option.some.injEq, Addr.mk.injEq, and_true] at e
  obtain ⟨rfl, rfl⟩ := e
  refine ⟨bb, off + i * 10, rfl, hlt, fun j hj => ?_⟩
  rw [hlen] at hj
  obtain ⟨t, h3, h4, h5, h6⟩ := hc (i + j) (by omega)
  have e : ((l.drop i).take (k - i))[j]! = l[i + j]! := by
    rw [getElem!_pos _ j (by rw [hlen]; exact hj), getElem!_pos l (i + j) (by omega), List.getElem_take, List.getElem_drop]
  rw [e]
  refine ⟨t, h3, h4, h5, fun q u hq => ?_⟩
  have := h6 q u hq
  rw [show off + i * 10 + j * 10 + q = off + (i + j) * 10 + q by omega]
  exact this
end Go.Proofs.YtepondcflkledaaGreat.S
end

section
namespace Go.Proofs.YtepondcflkledaaGreat.S
set_option maxRecDepth 20000
open Go.RowKit
open Rc (Ch)
open Q (Rr rr0 Qm Ft Mv)

/-- the state behind a row of changes, taken or not -/
def nxt1 (m : Int) (s : Sx) (l : List Ch) : Sx := (app m s l).getD s
theorem nxt1_wf {m : Int} {s : Sx} {l : List Ch} (hW : Wf m s) (hr : ∀ c ∈ l, c.rb < 18446744073709551616) : Wf m (nxt1 m s l) := by
  unfold nxt1
  cases h : app m s l with
  | none => exact hW
  | some t => exact app_wf hW hr h
theorem AP.nx {N : Nat → Prop} {m : Int} {s : Sx} {l : List Ch} {b : Nat} {w w' : World} {e : Ending} (h : AP N m s l b w e w') (hS : Sd N w b m s) :
    ∃ p q : Int, e = .returned (.tuple #[.int .i64 p, .int .i64 q]) ∧ Sd N w' b m (nxt1 m s l) ∧ Mv (fun g => g = b) (fun g => g = b) w w' := by
  cases h with
  | no h1 h2 h3 => exact ⟨_, _, h2, by unfold nxt1; rw [h1]; exact hS.below h3, Mv.of_below h3⟩
  | yes t h1 h2 h3 h4 => exact ⟨_, _, h2, by unfold nxt1; rw [h1]; exact h3, h4⟩
set_option maxHeartbeats 1000000 in
theorem sclone_any {N : Nat → Prop} {w : World} {b : Nat} {m : Int} {s : Sx} (h : Sd N w b m s) (hl : s.L.length ≤ 8) :
    Calls Tryz.prog 19 #[.pointer (some ⟨b, 0, none⟩)] w fun e w' => ∃ c, e = .returned (.pointer (some ⟨c, 0, none⟩)) ∧ w.heap.size ≤ c ∧ (∀ N' : Nat → Prop, (∀ g, N' g → (N g ∧ g < w.heap.size) ∨ g = c) → Sd N' w' c m s) ∧ Below w.heap.size w w' := by
  obtain ⟨kb, qb, v, T, hb, hK, hnk, hnf⟩ := h.ex
  have c0 : w.cell? ⟨b, 0, none⟩ = some (.pointer (some ⟨kb, 0, none⟩)) := by simp [World.cell?, hb]
  have HC := hide (kclone_any hK hl)
  clear h hK hnk hnf hb
  go_enter Tryz.func19, Tryz.ntmps19
  go_wp2_with fail
  refine HC.out.mono ?_
  rintro e w1 ⟨kb1, qb1, v1, rfl, hk1, hb1⟩
  have HK1 := hide hk1
  have HB1 := hide hb1
  clear hk1 hb1 HC c0
  go_wp2_with fail
  go_ret
  have hk1 := HK1.out
  have hsz := HB1.out.size
  have hb2 := below_alloc w1 (.cells #[.pointer (some ⟨kb1, 0, none⟩)] 59)
  have hn2 := heap_alloc_new w1 (.cells #[.pointer (some ⟨kb1, 0, none⟩)] 59)
  have hlow := hk1.low
  refine ⟨_, rfl, hsz, fun N' hN' => ⟨kb1, qb1, v1, T, hn2, (hk1.below hb2).weak (Nat.zero_le _) fun i hi g hg hn hn' => ?_, fun hn => ?_, fun g hg hn => ?_⟩, HB1.out.alloc hsz _⟩
  · rcases hN' g hn' with e | e
    · exact hn e.1
    · have := hk1.tb i hi g hg; omega
  · have := hk1.lt
    rcases hN' _ hn with e | e <;> omega
  · have := hk1.q.ftlt g hg
    rcases hN' _ hn with e | e <;> omega
end Go.Proofs.YtepondcflkledaaGreat.S
end

section
namespace Go.Proofs.YtepondcflkledaaGreat.S
set_option maxRecDepth 20000
open Go.RowKit
open Rc (Ch)
open Q (Rr rr0 nrow fnd grE grL exE exL seE seL hix gb rowR grt xp stl)

/-- of a job that is not there nothing -/
def Pz (s : Sx) : Prop := ∀ i, s.L.length ≤ i → s.pa i = pp0
theorem pz0 : Pz sx0 := fun i _ => by
  show (List.replicate 8 pp0).getD i pp0 = pp0
  rw [List.getD_eq_getElem?_getD, List.getElem?_replicate]
  split <;> rfl
theorem one_pz {m : Int} {s t : Sx} {c : Ch} (h : Wf m s) (h1 : one m s c = some t) (hz : Pz s) : Pz t := by
  unfold one at h1
  split at h1
  · cases h1
  split at h1
  · split at h1
    · cases h1
    injection h1 with h1
    subst h1
    exact hz
  split at h1
  · split at h1
    · injection h1 with h1
      subst h1
      intro i hi
      have hi2 : s.L.length + 1 ≤ i := by simpa using hi
      rw [pa_set, if_neg (fun e => by omega)]
      exact hz i (by omega)
    · cases h1
  split at h1
  · split at h1
    · cases h1
    rename_i hn
    have hn2 : grE s.L c.jo c.ba (2 + c.sl) c.li = 0 := Classical.not_not.1 fun e => hn (.inr e)
    injection h1 with h1
    subst h1
    obtain ⟨hj, hst, hgb, _, _⟩ := Q.grE_0 hn2
    obtain ⟨hi0, e⟩ := Q.rowR_in hj
    have hL : grL s.L c.jo c.ba (2 + c.sl) c.li = s.L.set (jx c.jo) (grt (rowR s.L c.jo) c.ba (2 + c.sl) c.li) := by unfold grL; rw [if_pos hn2]; rfl
    intro i hi
    have hi2 : s.L.length ≤ i := by
      have : (grL s.L c.jo c.ba (2 + c.sl) c.li).length ≤ i := hi
      rw [hL] at this; simpa using this
    have hi1 : jx c.jo < s.L.length := hi0
    rw [pa_set, if_neg (fun e => by omega)]
    exact hz i hi2
  split at h1
  · split at h1
    · cases h1
    rename_i hn
    have hn1 : fnd c.ba s.L ≠ rr0 := fun e => hn (.inl (.inl e))
    injection h1 with h1
    subst h1
    obtain ⟨j, hj, e, _, _, ej, _⟩ := fnd_in h.ok hn1
    rw [ej]
    intro i hi
    have hi2 : s.L.length ≤ i := hi
    rw [pa_set, if_neg (fun e => by omega)]
    exact hz i hi2
  split at h1
  · split at h1
    · injection h1 with h1
      subst h1
      intro i hi
      have hi2 : (exL m s.L c.ba).length ≤ i := hi
      refine hz i ?_
      unfold exL at hi2
      split at hi2
      · exact hi2
      · simpa using hi2
    · cases h1
  · split at h1
    · injection h1 with h1
      subst h1
      intro i hi
      have hi2 : (seL s.L c.ba c.rc (c.rb : Int)).length ≤ i := hi
      refine hz i ?_
      unfold seL at hi2
      split at hi2
      · exact hi2
      · split at hi2
        · simpa using hi2
        · exact hi2
    · cases h1
theorem app_pz {m : Int} : ∀ {l : List Ch} {s t : Sx}, Wf m s → (∀ c ∈ l, c.rb < 18446744073709551616) → app m s l = some t → Pz s → Pz t
  | [], s, t, _, _, h, hz => by simp only [app, Option.some.injEq] at h; exact h ▸ hz
  | c :: l, s, t, hW, hr, h, hz => by
    simp only [app] at h
    cases h1 : one m s c with
    | none => rw [h1] at h; cases h
    | some u => rw [h1] at h; exact app_pz (one_wf hW (hr c (by simp)) h1) (fun d hd => hr d (by simp [hd])) h (one_pz hW h1 hz)
theorem nxt1_pz {m : Int} {s : Sx} {l : List Ch} (hW : Wf m s) (hr : ∀ c ∈ l, c.rb < 18446744073709551616) (hz : Pz s) : Pz (nxt1 m s l) := by
  unfold nxt1
  cases h : app m s l with
  | none => exact hz
  | some t => exact app_pz hW hr h hz
/-- numbers that are read are those that were laid -/
theorem enc_inj {x y : Nat} (hx : x < 18446744073709551616) (hy : y < 18446744073709551616) {a b : List UInt8} (h : Pk.enc x ++ a = Pk.enc y ++ b) : x = y ∧ a = b := by
  have h1 := Pk.dec_enc x 0 0 a (by decide) (by simpa using hx) (.inl rfl)
  have h2 := Pk.dec_enc y 0 0 b (by decide) (by simpa using hy) (.inl rfl)
  rw [h, h2] at h1
  simp at h1
  have e : x = y := by omega
  subst e
  exact ⟨rfl, List.append_cancel_left h⟩
theorem encs_inj : ∀ {xs ys : List Nat}, xs.length = ys.length → (∀ x ∈ xs, x < 18446744073709551616) → (∀ x ∈ ys, x < 18446744073709551616) → ∀ {a b : List UInt8}, encs xs ++ a = encs ys ++ b → xs = ys ∧ a = b
  | [], [], _, _, _, a, b, h => ⟨rfl, by simpa [encs] using h⟩
  | [], y :: ys, hl, _, _, a, b, h => by simp at hl
  | x :: xs, [], hl, _, _, a, b, h => by simp at hl
  | x :: xs, y :: ys, hl, hx, hy, a, b, h => by
    simp only [encs, List.flatMap_cons, List.append_assoc] at h
    obtain ⟨rfl, h2⟩ := enc_inj (hx x (by simp)) (hy y (by simp)) h
    obtain ⟨rfl, h3⟩ := encs_inj (xs := xs) (ys := ys) (by simpa using hl) (fun z hz => hx z (by simp [hz])) (fun z hz => hy z (by simp [hz])) h2
    exact ⟨rfl, h3⟩
theorem big8_inj {x y : Nat} (hx : x < 18446744073709551616) (hy : y < 18446744073709551616) {a b : List UInt8} (h : Pk.big8 x ++ a = Pk.big8 y ++ b) : x = y ∧ a = b := by
  have hl : (Pk.big8 x).length = (Pk.big8 y).length := by simp [Pk.big8]
  obtain ⟨h1, h2⟩ := List.append_inj h hl
  have e1 := (bits_at (b := ⟨(Pk.big8 x).toArray⟩) (p := 0) (N := x) (more := []) (Nat.zero_le _) (by simp [rest]) hx).2
  have e2 := (bits_at (b := ⟨(Pk.big8 y).toArray⟩) (p := 0) (N := y) (more := []) (Nat.zero_le _) (by simp [rest]) hy).2
  rw [h1] at e1
  exact ⟨e1.symm.trans e2, h2⟩
theorem text_inj {s t : ByteArray} (hs : s.size < 18446744073709551616) (ht : t.size < 18446744073709551616) {a b : List UInt8} (h : Pk.enc s.size ++ (s.data.toList ++ a) = Pk.enc t.size ++ (t.data.toList ++ b)) : s = t ∧ a = b := by
  obtain ⟨h1, h2⟩ := enc_inj hs ht h
  have hl : s.data.toList.length = t.data.toList.length := by simpa using h1
  obtain ⟨h3, h4⟩ := List.append_inj h2 hl
  refine ⟨?_, h4⟩
  cases s with | mk sd => cases t with | mk td => exact congrArg ByteArray.mk (Array.toList_inj.1 h3)
theorem layT_inj : ∀ {l m : List ByteArray}, l.length = m.length → (∀ t ∈ l, t.size ≤ 32) → (∀ t ∈ m, t.size ≤ 32) → ∀ {a b : List UInt8}, Rc.layT l ++ a = Rc.layT m ++ b → l = m ∧ a = b
  | [], [], _, _, _, a, b, h => ⟨rfl, by simpa [Rc.layT] using h⟩
  | [], y :: ys, hl, _, _, a, b, h => by simp at hl
  | x :: xs, [], hl, _, _, a, b, h => by simp at hl
  | x :: xs, y :: ys, hl, hx, hy, a, b, h => by
    simp only [Rc.layT, List.flatMap_cons, List.append_assoc] at h
    have hx1 := hx x (by simp)
    have hy1 := hy y (by simp)
    obtain ⟨rfl, h2⟩ := text_inj (by omega) (by omega) h
    obtain ⟨rfl, h3⟩ := layT_inj (l := xs) (m := ys) (by simpa using hl) (fun z hz => hx z (by simp [hz])) (fun z hz => hy z (by simp [hz])) h2
    exact ⟨rfl, h3⟩
/-- a job's bytes tell it -/
theorem jb_inj {r q : Rr} {p u : Pp} (hr : Rz r) (hq : Rz q) (hp : p.pr.size ≤ 1024 ∧ p.lg.length ≤ 32 ∧ ∀ t ∈ p.lg, t.size ≤ 32) (hu : u.pr.size ≤ 1024 ∧ u.lg.length ≤ 32 ∧ ∀ t ∈ u.lg, t.size ≤ 32) (hj : r.job = q.job) {a b : List UInt8} (h : jb r p ++ a = jb q u ++ b) : r = q ∧ p = u ∧ a = b := by
  obtain ⟨r1, r2, r3, r4, r5, r6, r7⟩ := hr
  obtain ⟨q1, q2, q3, q4, q5, q6, q7⟩ := hq
  obtain ⟨p1, p2, p3⟩ := hp
  obtain ⟨u1, u2, u3⟩ := hu
  simp only [jb, List.append_assoc] at h
  obtain ⟨e1, h⟩ := encs_inj (xs := [r.st.toNat, r.att.toNat, r.bdg.toNat, r.node.toNat, r.life.toNat, r.code.toNat]) (ys := [q.st.toNat, q.att.toNat, q.bdg.toNat, q.node.toNat, q.life.toNat, q.code.toNat]) rfl (by simp; omega) (by simp; omega) h
  obtain ⟨e2, h⟩ := big8_inj (by omega) (by omega) h
  obtain ⟨e3, h⟩ := text_inj (by omega) (by omega) h
  obtain ⟨e4, h⟩ := encs_inj (xs := [p.lg.length]) (ys := [u.lg.length]) rfl (by simp; omega) (by simp; omega) h
  simp only [List.cons.injEq, and_true] at e1 e4
  obtain ⟨e5, h⟩ := layT_inj e4 p3 u3 h
  refine ⟨?_, ?_, h⟩
  · obtain ⟨a1, a2, a3, a4, a5, a6, a7, a8⟩ := r
    obtain ⟨b1, b2, b3, b4, b5, b6, b7, b8⟩ := q
    simp only at hj r1 r2 r3 r4 r5 r6 r7 q1 q2 q3 q4 q5 q6 q7 e1 e2
    obtain ⟨c1, c2, c3, c4, c5, c6⟩ := e1
    have d1 : a2 = b2 := by omega
    have d2 : a3 = b3 := by omega
    have d3 : a4 = b4 := by omega
    have d4 : a5 = b5 := by omega
    have d5 : a6 = b6 := by omega
    have d6 : a7 = b7 := by omega
    have d7 : a8 = b8 := by omega
    rw [hj, d1, d2, d3, d4, d5, d6, d7]
  · obtain ⟨pr, lg⟩ := p
    obtain ⟨pr', lg'⟩ := u
    simp only at e3 e5
    rw [e3, e5]
def Gd (x : Rr × Pp) : Prop := Rz x.1 ∧ x.2.pr.size ≤ 1024 ∧ x.2.lg.length ≤ 32 ∧ ∀ t ∈ x.2.lg, t.size ≤ 32
theorem jbs_inj : ∀ {A B : List (Rr × Pp)}, A.map (fun x => x.1.job) = B.map (fun x => x.1.job) → (∀ x ∈ A, Gd x) → (∀ x ∈ B, Gd x) → ∀ {a b : List UInt8}, A.flatMap (fun x => jb x.1 x.2) ++ a = B.flatMap (fun x => jb x.1 x.2) ++ b → A = B
  | [], [], _, _, _, a, b, h => rfl
  | [], y :: ys, hl, _, _, a, b, h => by simp at hl
  | x :: xs, [], hl, _, _, a, b, h => by simp at hl
  | x :: xs, y :: ys, hl, hx, hy, a, b, h => by
    simp only [List.map_cons, List.cons.injEq] at hl
    simp only [List.flatMap_cons, List.append_assoc] at h
    have hx1 := hx x (by simp)
    have hy1 := hy y (by simp)
    obtain ⟨e1, e2, h2⟩ := jb_inj hx1.1 hy1.1 hx1.2 hy1.2 hl.1 h
    have e3 := jbs_inj (A := xs) (B := ys) hl.2 (fun z hz => hx z (by simp [hz])) (fun z hz => hy z (by simp [hz])) h2
    rw [e3]
    obtain ⟨x1, x2⟩ := x
    obtain ⟨y1, y2⟩ := y
    simp only at e1 e2
    rw [e1, e2]
def jps (s : Sx) : List (Rr × Pp) := (List.range s.L.length).map fun i => (s.L.getD i rr0, s.pa i)
theorem jps_good {m : Int} {s : Sx} (h : Wf m s) : ∀ x ∈ jps s, Gd x := by
  intro x hx
  obtain ⟨i, hi, rfl⟩ := List.mem_map.1 hx
  have hi2 := List.mem_range.1 hi
  refine ⟨?_, h.pp i⟩
  have e : s.L.getD i rr0 = s.L[i] := by rw [List.getD_eq_getElem?_getD, List.getElem?_eq_getElem hi2]; rfl
  show Rz (s.L.getD i rr0)
  rw [e]
  exact h.rz i hi2
theorem jps_job {m : Int} {s : Sx} (h : Wf m s) : (jps s).map (fun x => x.1.job) = (List.range s.L.length).map fun i : Nat => (i : Int) + 1 := by
  unfold jps
  rw [List.map_map]
  refine List.map_congr_left fun i hi => ?_
  have hi2 := List.mem_range.1 hi
  show (s.L.getD i rr0).job = _
  rw [List.getD_eq_getElem?_getD, List.getElem?_eq_getElem hi2]
  exact h.ok.job i hi2
theorem sbs_jps (s : Sx) : sbs s s.L.length = (jps s).flatMap fun x => jb x.1 x.2 := by
  unfold sbs jps
  rw [List.flatMap_map]
theorem bys_inj {m : Int} {s t : Sx} (hs : Wf m s) (ht : Wf m t) (zs : Pz s) (zt : Pz t) (h : bys s = bys t) : s = t := by
  unfold bys at h
  have hs8 := hs.ok.len
  have ht8 := ht.ok.len
  have hs0 := hs.r0
  have hs1 := hs.r1
  have ht0 := ht.r0
  have ht1 := ht.r1
  have h' : encs [s.res.toNat, s.L.length] ++ sbs s s.L.length = encs [t.res.toNat, t.L.length] ++ sbs t t.L.length := h
  obtain ⟨e1, h2⟩ := encs_inj (xs := [s.res.toNat, s.L.length]) (ys := [t.res.toNat, t.L.length]) rfl (by simp; omega) (by simp; omega) h'
  simp only [List.cons.injEq, and_true] at e1
  obtain ⟨e1, e2⟩ := e1
  rw [sbs_jps, sbs_jps] at h2
  have h3 := jbs_inj (a := []) (b := []) (by rw [jps_job hs, jps_job ht, e2]) (jps_good hs) (jps_good ht) (by rw [h2])
  have h4 : ∀ i, i < s.L.length → s.L.getD i rr0 = t.L.getD i rr0 ∧ s.pa i = t.pa i := fun i hi => by
    unfold jps at h3
    have h5 := congrArg (fun l => l[i]?) h3
    simp only [List.getElem?_map] at h5
    rw [List.getElem?_range hi, List.getElem?_range (by omega)] at h5
    simp only [Option.map_some, Option.some.injEq, Prod.mk.injEq] at h5
    exact h5
  have hL : s.L = t.L := by
    refine List.ext_getElem e2 fun i h1 h2 => ?_
    have := (h4 i h1).1
    rw [List.getD_eq_getElem?_getD, List.getElem?_eq_getElem h1, List.getD_eq_getElem?_getD, List.getElem?_eq_getElem h2] at this
    exact this
  have hP : s.P = t.P := by
    refine List.ext_getElem (by rw [hs.len, ht.len]) fun i h1 h2 => ?_
    have hpa : s.pa i = t.pa i := by
      by_cases hi : i < s.L.length
      · exact (h4 i hi).2
      · rw [zs i (by omega), zt i (by omega)]
    unfold Sx.pa at hpa
    rw [List.getD_eq_getElem?_getD, List.getElem?_eq_getElem h1, List.getD_eq_getElem?_getD, List.getElem?_eq_getElem h2] at hpa
    exact hpa
  obtain ⟨a1, a2, a3⟩ := s
  obtain ⟨b1, b2, b3⟩ := t
  simp only at hL hP e1 hs0 ht0
  have : a1 = b1 := by omega
  rw [this, hL, hP]
end Go.Proofs.YtepondcflkledaaGreat.S
end
