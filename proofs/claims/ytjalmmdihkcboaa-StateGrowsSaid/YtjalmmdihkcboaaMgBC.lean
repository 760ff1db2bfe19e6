import Derived.Test.YtjalmmdihkcboaaMgBA
import Derived.Test.YtjalmmdihkcboaaMgAZ
import Derived.Test.YtjalmmdihkcboaaMgBB
import Derived.Deep.DeepCutAuto

section
namespace Go.Proofs.Ytjalmmdihkcboaa.S
open Go.RowKit
open Rc (Ch)
open Q (Rr rr0 Qm Ft Mv fnd)

/-- changes as they lie in a row -/
def ccs (q : List (Ch × Value)) : List Value := q.flatMap fun x => (chC x.1 x.2).toList
theorem ccs_get (l : List (Ch × Value)) (i k : Nat) (hi : i < l.length) (hk : k < 10) : (ccs l)[i * 10 + k]? = (chC (l[i]).1 (l[i]).2)[k]? := by
  induction l generalizing i with
  | nil => simp at hi
  | cons j l ih =>
    have e : ccs (j :: l) = (chC j.1 j.2).toList ++ ccs l := by simp [ccs]
    have h10 : (chC j.1 j.2).toList.length = 10 := rfl
    rw [e]
    cases i with
    | zero => rw [List.getElem?_append_left (by omega)]; simp
    | succ i =>
      rw [List.getElem?_append_right (by omega), h10, show (i + 1) * 10 + k - 10 = i * 10 + k by omega, ih i (by simpa using hi)]
      simp
theorem rw_of {w : World} {g : Nat} {T : TypeId} {q : List (Ch × Value)} (h : w.heap[g]? = some (.cells (ccs q).toArray T (0, 0))) (ht : ∀ x ∈ q, Tx w x.2 x.1.tx ∧ x.1.tx.length ≤ 140737488351232 ∧ x.1.rb < 18446744073709551616) :
    Rw w (.slice (some ⟨g, 0, none⟩) (q.map Prod.fst).length (q.map Prod.fst).length) (q.map Prod.fst) := by
  refine ⟨_, _, rfl, fun _ => ⟨g, 0, rfl, lt_of_block h, fun j hj => ?_⟩⟩
  have hj' : j < q.length := by simpa using hj
  have hm := ht q[j] (List.getElem_mem hj')
  have e : (q.map Prod.fst)[j]! = (q[j]).1 := by rw [getElem!_pos _ j hj, List.getElem_map]
  rw [e]
  refine ⟨(q[j]).2, hm.1, hm.2.1, hm.2.2, fun i u hu => ?_⟩
  have hi : i < 10 := (Array.getElem?_eq_some_iff.1 hu).1
  rw [Nat.zero_add]
  simp only [World.cell?, h]
  have := ccs_get q j i hj' hi
  rw [hu] at this
  simpa using this
theorem bys0 : bys sx0 = [0, 0] := by
  unfold bys
  show encs [0, 0] ++ [] = _
  simp [encs, Pk.enc_lt]
def c4a : Ch := ⟨2, 0, 1, 0, 0, 0, 0, 0, ⟨#[112]⟩, []⟩
def c4b : Ch := ⟨1, 4, 0, 0, 0, 0, 0, 0, ⟨#[]⟩, []⟩
def c4c : Ch := ⟨3, 0, 1, 2, 0, 1, 0, 0, ⟨#[]⟩, []⟩
def c4d : Ch := ⟨4, 0, 0, 2, 0, 0, 0, 0, ⟨#[]⟩, [⟨#[97]⟩, ⟨#[98]⟩]⟩
def c2a : Ch := ⟨1, 9, 0, 0, 0, 0, 0, 0, ⟨#[]⟩, []⟩
def s4 : Sx := ⟨4, [⟨1, 2, 1, 2, 2, 1, 0, 0⟩], ⟨⟨#[112]⟩, [⟨#[97]⟩, ⟨#[98]⟩]⟩ :: List.replicate 7 pp0⟩
theorem app4 : app 1 sx0 [c4a, c4b, c4c, c4d] = some s4 := by rfl
theorem app2 : app 1 s4 [c2a, c4b] = none := by rfl
theorem bad2 : bad 1 s4 [c2a, c4b] = 1 := by rfl
theorem fnd4 : fnd 2 s4.L = ⟨1, 2, 1, 2, 2, 1, 0, 0⟩ := by rfl
set_option maxHeartbeats 2000000 in
set_option maxRecDepth 20000 in
theorem sfixed_any (w : World) : Calls Try.prog 7 #[] w fun e w' => e = .returned (.bool true) ∧ Below w.heap.size w w' := by
  have HNw := hide (new_any w 1)
  go_enter Try.func7, Try.ntmps7
  go_wp2_with fail
  refine HNw.out.mono ?_
  rintro e w1 (⟨h1, _⟩ | ⟨b, h1, hok, rfl, hbl, hsd, hb1⟩)
  · exact absurd (by decide) h1
  have hs1 := hsd (fun g => g = b) (fun g hg => .inr hg)
  have H1 := hide hs1
  have HB1 := hide hb1
  have HW0 := hide (wf0 hok)
  have HBy := hide (bytes_any hs1 (wf0 hok))
  have hbw := hs1.lt
  rw [bys0] at HBy
  clear hs1 hb1 hsd h1 hok HNw
  go_wp2_with fail
  refine HBy.out.mono ?_
  rintro e w2 ⟨rfl, hb2⟩
  have H2 := hide (H1.out.below hb2)
  have HB2 := hide (HB1.out.trans (hb2.mono HB1.out.size))
  have hbw2 : b < w2.heap.size := H2.out.lt
  clear hb2 H1 HB1 HBy
  have hsz2 := HB2.out.size
  have hsA := World.size_alloc w2 (.cells #[.string ⟨#[97]⟩, .string ⟨#[98]⟩] 9)
  have hbA := below_alloc w2 (.cells #[.string ⟨#[97]⟩, .string ⟨#[98]⟩] 9)
  have hnA := heap_alloc_new w2 (.cells #[.string ⟨#[97]⟩, .string ⟨#[98]⟩] 9)
  have hbB := below_alloc (w2.alloc (.cells #[.string ⟨#[97]⟩, .string ⟨#[98]⟩] 9)) (.cells #[.int .i64 2, .int .i64 0, .int .i64 1, .int .i64 0, .int .i64 0, .int .i64 0, .int .i64 0, .int .u64 0, .string ⟨#[112]⟩, .slice none 0 0, .int .i64 1, .int .i64 4, .int .i64 0, .int .i64 0, .int .i64 0, .int .i64 0, .int .i64 0, .int .u64 0, .string ⟨#[]⟩, .slice none 0 0, .int .i64 3, .int .i64 0, .int .i64 1, .int .i64 2, .int .i64 0, .int .i64 1, .int .i64 0, .int .u64 0, .string ⟨#[]⟩, .slice none 0 0, .int .i64 4, .int .i64 0, .int .i64 0, .int .i64 2, .int .i64 0, .int .i64 0, .int .i64 0, .int .u64 0, .string ⟨#[]⟩, .slice (some ⟨w2.heap.size, 0, none⟩) 2 2] 53)
  have hnB := heap_alloc_new (w2.alloc (.cells #[.string ⟨#[97]⟩, .string ⟨#[98]⟩] 9)) (.cells #[.int .i64 2, .int .i64 0, .int .i64 1, .int .i64 0, .int .i64 0, .int .i64 0, .int .i64 0, .int .u64 0, .string ⟨#[112]⟩, .slice none 0 0, .int .i64 1, .int .i64 4, .int .i64 0, .int .i64 0, .int .i64 0, .int .i64 0, .int .i64 0, .int .u64 0, .string ⟨#[]⟩, .slice none 0 0, .int .i64 3, .int .i64 0, .int .i64 1, .int .i64 2, .int .i64 0, .int .i64 1, .int .i64 0, .int .u64 0, .string ⟨#[]⟩, .slice none 0 0, .int .i64 4, .int .i64 0, .int .i64 0, .int .i64 2, .int .i64 0, .int .i64 0, .int .i64 0, .int .u64 0, .string ⟨#[]⟩, .slice (some ⟨w2.heap.size, 0, none⟩) 2 2] 53)
  rw [hsA] at hnB
  have hA3 := (hbB.block _ (by omega)).trans hnA
  have hT : Tx ((w2.alloc (.cells #[.string ⟨#[97]⟩, .string ⟨#[98]⟩] 9)).alloc (.cells #[.int .i64 2, .int .i64 0, .int .i64 1, .int .i64 0, .int .i64 0, .int .i64 0, .int .i64 0, .int .u64 0, .string ⟨#[112]⟩, .slice none 0 0, .int .i64 1, .int .i64 4, .int .i64 0, .int .i64 0, .int .i64 0, .int .i64 0, .int .i64 0, .int .u64 0, .string ⟨#[]⟩, .slice none 0 0, .int .i64 3, .int .i64 0, .int .i64 1, .int .i64 2, .int .i64 0, .int .i64 1, .int .i64 0, .int .u64 0, .string ⟨#[]⟩, .slice none 0 0, .int .i64 4, .int .i64 0, .int .i64 0, .int .i64 2, .int .i64 0, .int .i64 0, .int .i64 0, .int .u64 0, .string ⟨#[]⟩, .slice (some ⟨w2.heap.size, 0, none⟩) 2 2] 53)) (.slice (some ⟨w2.heap.size, 0, none⟩) 2 2) [⟨#[97]⟩, ⟨#[98]⟩] := ⟨_, 2, rfl, fun _ => ⟨w2.heap.size, 0, rfl, lt_of_block hA3, fun j hj => by
    have h2 : j = 0 ∨ j = 1 := by have h3 : j < 2 := hj; omega
    rcases h2 with rfl | rfl <;> simp [World.cell?, hA3]⟩⟩
  have hRw : Rw ((w2.alloc (.cells #[.string ⟨#[97]⟩, .string ⟨#[98]⟩] 9)).alloc (.cells #[.int .i64 2, .int .i64 0, .int .i64 1, .int .i64 0, .int .i64 0, .int .i64 0, .int .i64 0, .int .u64 0, .string ⟨#[112]⟩, .slice none 0 0, .int .i64 1, .int .i64 4, .int .i64 0, .int .i64 0, .int .i64 0, .int .i64 0, .int .i64 0, .int .u64 0, .string ⟨#[]⟩, .slice none 0 0, .int .i64 3, .int .i64 0, .int .i64 1, .int .i64 2, .int .i64 0, .int .i64 1, .int .i64 0, .int .u64 0, .string ⟨#[]⟩, .slice none 0 0, .int .i64 4, .int .i64 0, .int .i64 0, .int .i64 2, .int .i64 0, .int .i64 0, .int .i64 0, .int .u64 0, .string ⟨#[]⟩, .slice (some ⟨w2.heap.size, 0, none⟩) 2 2] 53)) (.slice (some ⟨w2.heap.size + 1, 0, none⟩) 4 4) [c4a, c4b, c4c, c4d] := rw_of (q := [(c4a, .slice none 0 0), (c4b, .slice none 0 0), (c4c, .slice none 0 0), (c4d, .slice (some ⟨w2.heap.size, 0, none⟩) 2 2)]) hnB (by
    intro x hx
    simp only [List.mem_cons, List.not_mem_nil, or_false] at hx
    rcases hx with rfl | rfl | rfl | rfl
    · exact ⟨Tx.nil _, by decide, by decide⟩
    · exact ⟨Tx.nil _, by decide, by decide⟩
    · exact ⟨Tx.nil _, by decide, by decide⟩
    · exact ⟨hT, by show c4d.tx.length ≤ _; decide, by show c4d.rb < _; decide⟩)
  have hS3 := (H2.out.below hbA).below hbB
  have HB3 : Hid (Below w.heap.size w ((w2.alloc (.cells #[.string ⟨#[97]⟩, .string ⟨#[98]⟩] 9)).alloc (.cells #[.int .i64 2, .int .i64 0, .int .i64 1, .int .i64 0, .int .i64 0, .int .i64 0, .int .i64 0, .int .u64 0, .string ⟨#[112]⟩, .slice none 0 0, .int .i64 1, .int .i64 4, .int .i64 0, .int .i64 0, .int .i64 0, .int .i64 0, .int .i64 0, .int .u64 0, .string ⟨#[]⟩, .slice none 0 0, .int .i64 3, .int .i64 0, .int .i64 1, .int .i64 2, .int .i64 0, .int .i64 1, .int .i64 0, .int .u64 0, .string ⟨#[]⟩, .slice none 0 0, .int .i64 4, .int .i64 0, .int .i64 0, .int .i64 2, .int .i64 0, .int .i64 0, .int .i64 0, .int .u64 0, .string ⟨#[]⟩, .slice (some ⟨w2.heap.size, 0, none⟩) 2 2] 53))) := hide ((HB2.out.alloc hsz2 _).alloc (by omega) _)
  have HAp := hide (apply_any hS3 (fun g hg => by rw [show g = b from hg]; exact hS3.lt) rfl HW0.out hRw (by decide))
  have hsB : ((w2.alloc (.cells #[.string ⟨#[97]⟩, .string ⟨#[98]⟩] 9)).alloc (.cells #[.int .i64 2, .int .i64 0, .int .i64 1, .int .i64 0, .int .i64 0, .int .i64 0, .int .i64 0, .int .u64 0, .string ⟨#[112]⟩, .slice none 0 0, .int .i64 1, .int .i64 4, .int .i64 0, .int .i64 0, .int .i64 0, .int .i64 0, .int .i64 0, .int .u64 0, .string ⟨#[]⟩, .slice none 0 0, .int .i64 3, .int .i64 0, .int .i64 1, .int .i64 2, .int .i64 0, .int .i64 1, .int .i64 0, .int .u64 0, .string ⟨#[]⟩, .slice none 0 0, .int .i64 4, .int .i64 0, .int .i64 0, .int .i64 2, .int .i64 0, .int .i64 0, .int .i64 0, .int .u64 0, .string ⟨#[]⟩, .slice (some ⟨w2.heap.size, 0, none⟩) 2 2] 53)).heap.size = w2.heap.size + 1 + 1 := by rw [World.size_alloc, hsA]
  clear hnA hnB hA3 hT hRw hS3 hbA hbB hsA H2 HB2
  go_wp2_with fail
  refine HAp.out.mono ?_
  rintro e w3 (⟨h1, _, _⟩ | ⟨s', h1, rfl, hS, hM⟩)
  · rw [app4] at h1; cases h1
  rw [app4, Option.some.injEq] at h1
  subst h1
  have H3 := hide hS
  have HB4 := hide (HB3.out.trans (hM.below (B := w.heap.size) HB3.out.size (fun g hg => by rw [hg]; exact hbl)))
  have HW4 : Hid (Wf 1 s4) := hide (app_wf HW0.out (by intro c hc; simp at hc; rcases hc with rfl | rfl | rfl | rfl <;> decide) app4)
  have hsz3 := HB4.out.size
  clear hS hM HAp HB3 HW0 hsB hsz2
  have hbC := below_alloc w3 (.cells #[.int .i64 1, .int .i64 9, .int .i64 0, .int .i64 0, .int .i64 0, .int .i64 0, .int .i64 0, .int .u64 0, .string ⟨#[]⟩, .slice none 0 0, .int .i64 1, .int .i64 4, .int .i64 0, .int .i64 0, .int .i64 0, .int .i64 0, .int .i64 0, .int .u64 0, .string ⟨#[]⟩, .slice none 0 0] 53)
  have hnC := heap_alloc_new w3 (.cells #[.int .i64 1, .int .i64 9, .int .i64 0, .int .i64 0, .int .i64 0, .int .i64 0, .int .i64 0, .int .u64 0, .string ⟨#[]⟩, .slice none 0 0, .int .i64 1, .int .i64 4, .int .i64 0, .int .i64 0, .int .i64 0, .int .i64 0, .int .i64 0, .int .u64 0, .string ⟨#[]⟩, .slice none 0 0] 53)
  have hR2 : Rw (w3.alloc (.cells #[.int .i64 1, .int .i64 9, .int .i64 0, .int .i64 0, .int .i64 0, .int .i64 0, .int .i64 0, .int .u64 0, .string ⟨#[]⟩, .slice none 0 0, .int .i64 1, .int .i64 4, .int .i64 0, .int .i64 0, .int .i64 0, .int .i64 0, .int .i64 0, .int .u64 0, .string ⟨#[]⟩, .slice none 0 0] 53)) (.slice (some ⟨w3.heap.size, 0, none⟩) 2 2) [c2a, c4b] := rw_of (q := [(c2a, .slice none 0 0), (c4b, .slice none 0 0)]) hnC (by
    intro x hx
    simp only [List.mem_cons, List.not_mem_nil, or_false] at hx
    rcases hx with rfl | rfl
    · exact ⟨Tx.nil _, by decide, by decide⟩
    · exact ⟨Tx.nil _, by decide, by decide⟩)
  have hS4 := H3.out.below hbC
  have H4 := hide hS4
  have HB5 : Hid (Below w.heap.size w (w3.alloc (.cells #[.int .i64 1, .int .i64 9, .int .i64 0, .int .i64 0, .int .i64 0, .int .i64 0, .int .i64 0, .int .u64 0, .string ⟨#[]⟩, .slice none 0 0, .int .i64 1, .int .i64 4, .int .i64 0, .int .i64 0, .int .i64 0, .int .i64 0, .int .i64 0, .int .u64 0, .string ⟨#[]⟩, .slice none 0 0] 53))) := hide (HB4.out.alloc hsz3 _)
  have HAp := hide (apply_any hS4 (fun g hg => by rw [show g = b from hg]; exact hS4.lt) rfl HW4.out hR2 (by decide))
  clear hnC hR2 hS4 hbC H3 HB4
  go_wp2_with fail
  refine HAp.out.mono ?_
  rintro e w4 (⟨h1, rfl, hb4⟩ | ⟨s', h1, _, _, _⟩)
  rotate_left
  · rw [app2] at h1; cases h1
  rw [bad2]
  have H5 := hide (H4.out.below hb4)
  have HB6 := hide (HB5.out.trans (hb4.mono HB5.out.size))
  have HFi := hide (find_any H5.out HW4.out 2)
  clear h1 hb4 HAp H4 HB5
  go_wp2_with fail
  refine HFi.out.mono ?_
  rintro e w5 (⟨h1, _, _⟩ | ⟨i, t, _, hi, _, rfl, ho, hb5⟩)
  · rw [fnd4] at h1; exact absurd h1 (by decide)
  obtain rfl : i = 0 := by have h3 : i < 1 := hi; omega
  rw [fnd4]
  have hpl : s4.pa 0 = ⟨⟨#[112]⟩, [⟨#[97]⟩, ⟨#[98]⟩]⟩ := rfl
  rw [hpl] at ho ⊢
  have hTt := tx_own ho
  obtain ⟨pt, ct, rfl⟩ := own_slice ho
  have hptx := hTt.form
  obtain ⟨pt', ct', he, hc⟩ := hptx
  simp only [Value.slice.injEq] at he
  obtain ⟨rfl, -, rfl⟩ := he
  obtain ⟨tb, tf, rfl, htl, htc⟩ := hc (by show 0 < 2; decide)
  have t1 : w5.cell? ⟨tb, tf + 1, none⟩ = some (.string ⟨#[98]⟩) := htc 1 (by show 1 < 2; decide)
  have H6 := hide (H5.out.below hb5)
  have HB7 := hide (HB6.out.trans (hb5.mono HB6.out.size))
  have hsz5 := HB7.out.size
  clear ho hTt hc htc hb5 HFi H5 HB6 hi
  simp only [plC]
  have hlen2 : ([⟨#[97]⟩, ⟨#[98]⟩] : List ByteArray).length = 2 := rfl
  simp only [hlen2]
  have HRe := hide (reserved_any (H6.out.below (below_alloc w5 (.cells (plC ⟨1, 2, 1, 2, 2, 1, 0, 0⟩ ⟨#[112]⟩ (.slice (some ⟨tb, tf, none⟩) 2 ct)) 44))))
  have HB8 : Hid (Below w.heap.size w (w5.alloc (.cells (plC ⟨1, 2, 1, 2, 2, 1, 0, 0⟩ ⟨#[112]⟩ (.slice (some ⟨tb, tf, none⟩) 2 ct)) 44))) := hide (HB7.out.alloc hsz5 _)
  have t2 : (w5.alloc (.cells (plC ⟨1, 2, 1, 2, 2, 1, 0, 0⟩ ⟨#[112]⟩ (.slice (some ⟨tb, tf, none⟩) 2 ct)) 44)).cell? ⟨tb, tf + 1, none⟩ = some (.string ⟨#[98]⟩) := Lib.cell?_alloc_some _ t1
  simp only [plC] at HRe HB8 t2
  clear H6 HB7 t1
  go_wp2_with fail
  refine HRe.out.mono ?_
  rintro e w6 ⟨rfl, rfl⟩
  have hr4 : s4.res = 4 := rfl
  rw [hr4]
  clear HRe
  go_wp2_with fail
  go_ret
  exact ⟨rfl, HB8.out⟩
end Go.Proofs.Ytjalmmdihkcboaa.S
end

section
namespace Go.Proofs.Ytjalmmdihkcboaa.S
open Go.RowKit
open Rc (Ch)
open Q (Rr rr0 Qm Ft Mv)

/-- a part of a row -/
theorem rw_sub {w : World} {bb off cap : Nat} {l : List Ch} (h : Rw w (.slice (some ⟨bb, off, none⟩) l.length cap) l) {i k : Nat} (hik : i ≤ k) (hk : k ≤ l.length) (c' : Nat) : Rw w (.slice (some ⟨bb, off + i * 10, none⟩) (k - i) c') ((l.drop i).take (k - i)) := by
  obtain ⟨p, cp, hv, h2⟩ := h
  simp only [Value.slice.injEq] at hv
  obtain ⟨rfl, -, rfl⟩ := hv
  have hlen : ((l.drop i).take (k - i)).length = k - i := by rw [List.length_take, List.length_drop]; omega
  refine ⟨some ⟨bb, off + i * 10, none⟩, c', by rw [hlen], fun h0 => ?_⟩
  rw [hlen] at h0
  obtain ⟨b', off', e, hlt, hc⟩ := h2 (by omega)
  simp only [Option.some.injEq, Addr.mk.injEq, and_true] at e
  obtain ⟨rfl, rfl⟩ := e
  refine ⟨bb, off + i * 10, rfl, hlt, fun j hj => ?_⟩
  rw [hlen] at hj
  obtain ⟨t, h3, h4, h5, h6⟩ := hc (i + j) (by omega)
  have e : ((l.drop i).take (k - i))[j]! = l[i + j]! := by
    rw [getElem!_pos _ j (by rw [hlen]; exact hj), getElem!_pos l (i + j) (by omega), List.getElem_take, List.getElem_drop]
  rw [e]
  refine ⟨t, h3, h4, h5, fun q u hq => ?_⟩
  have := h6 q u hq
  rw [show off + i * 10 + j * 10 + q = off + (i + j) * 10 + q by omega]
  exact this
end Go.Proofs.Ytjalmmdihkcboaa.S
end

section
namespace Go.Proofs.Ytjalmmdihkcboaa.S
open Go.RowKit
open Rc (Ch)
open Q (Rr rr0 Qm Ft Mv)

/-- the state behind a row of changes, taken or not -/
def nxt1 (m : Int) (s : Sx) (l : List Ch) : Sx := (app m s l).getD s
theorem nxt1_wf {m : Int} {s : Sx} {l : List Ch} (hW : Wf m s) (hr : ∀ c ∈ l, c.rb < 18446744073709551616) : Wf m (nxt1 m s l) := by
  unfold nxt1
  cases h : app m s l with
  | none => exact hW
  | some t => exact app_wf hW hr h
theorem AP.nx {N : Nat → Prop} {m : Int} {s : Sx} {l : List Ch} {b : Nat} {w w' : World} {e : Ending} (h : AP N m s l b w e w') (hS : Sd N w b m s) :
    ∃ p q : Int, e = .returned (.tuple #[.int .i64 p, .int .i64 q]) ∧ Sd N w' b m (nxt1 m s l) ∧ Mv (fun g => g = b) (fun g => g = b) w w' := by
  cases h with
  | no h1 h2 h3 => exact ⟨_, _, h2, by unfold nxt1; rw [h1]; exact hS.below h3, Mv.of_below h3⟩
  | yes t h1 h2 h3 h4 => exact ⟨_, _, h2, by unfold nxt1; rw [h1]; exact h3, h4⟩
set_option maxHeartbeats 1000000 in
theorem sclone_any {N : Nat → Prop} {w : World} {b : Nat} {m : Int} {s : Sx} (h : Sd N w b m s) (hl : s.L.length ≤ 8) :
    Calls Try.prog 12 #[.pointer (some ⟨b, 0, none⟩)] w fun e w' => ∃ c, e = .returned (.pointer (some ⟨c, 0, none⟩)) ∧ w.heap.size ≤ c ∧ (∀ N' : Nat → Prop, (∀ g, N' g → (N g ∧ g < w.heap.size) ∨ g = c) → Sd N' w' c m s) ∧ Below w.heap.size w w' := by
  obtain ⟨kb, qb, v, T, hb, hK, hnk, hnf⟩ := h.ex
  have c0 : w.cell? ⟨b, 0, none⟩ = some (.pointer (some ⟨kb, 0, none⟩)) := by simp [World.cell?, hb]
  have HC := hide (kclone_any hK hl)
  clear h hK hnk hnf hb
  go_enter Try.func12, Try.ntmps12
  go_wp2_with fail
  refine HC.out.mono ?_
  rintro e w1 ⟨kb1, qb1, v1, rfl, hk1, hb1⟩
  have HK1 := hide hk1
  have HB1 := hide hb1
  clear hk1 hb1 HC c0
  go_wp2_with fail
  go_ret
  have hk1 := HK1.out
  have hsz := HB1.out.size
  have hb2 := below_alloc w1 (.cells #[.pointer (some ⟨kb1, 0, none⟩)] 64)
  have hn2 := heap_alloc_new w1 (.cells #[.pointer (some ⟨kb1, 0, none⟩)] 64)
  have hlow := hk1.low
  refine ⟨_, rfl, hsz, fun N' hN' => ⟨kb1, qb1, v1, T, hn2, (hk1.below hb2).weak (Nat.zero_le _) fun i hi g hg hn hn' => ?_, fun hn => ?_, fun g hg hn => ?_⟩, HB1.out.alloc hsz _⟩
  · rcases hN' g hn' with e | e
    · exact hn e.1
    · have := hk1.tb i hi g hg; omega
  · have := hk1.lt
    rcases hN' _ hn with e | e <;> omega
  · have := hk1.q.ftlt g hg
    rcases hN' _ hn with e | e <;> omega
end Go.Proofs.Ytjalmmdihkcboaa.S
end
