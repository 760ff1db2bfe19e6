import Derived.Test.YtjfgmdiafhkbgaaAuAa
namespace Go.Proofs.Ytjfgmdiafhkbgaa
open Go.RowKit Go.MapKept
set_option maxRecDepth 8000

def Ru.at (r : Ru) : Nat → Bool
  | 1 => r.a1 | 2 => r.a2 | 3 => r.a3 | 4 => r.a4 | 5 => r.a5 | 6 => r.a6 | 7 => r.a7 | 8 => r.a8 | _ => false
/-- the faults of one event, of the rules below n -/
def flts (r : Ru) (at_ n : Nat) : List (Nat × Nat) := ((List.range n).filter r.at).map fun j => (j, at_)
/-- the history behind the first i -/
def hN (l : List Ev) : Nat → Hs
  | 0 => hs0
  | i + 1 => stp (hN l i) l[i]!
/-- the faults of the first i -/
def allN (l : List Ev) : Nat → List (Nat × Nat)
  | 0 => []
  | i + 1 => allN l i ++ flts (stR (hN l i) l[i]!) i 9
def allL (l : List Ev) : List (Nat × Nat) := if allE l = 0 then allN l l.length else []
def fcs (l : List (Nat × Nat)) : List Value := l.flatMap fun x => [.int .i64 (x.1 : Int), .int .i64 (x.2 : Int)]
theorem fcs_app (l m : List (Nat × Nat)) : fcs (l ++ m) = fcs l ++ fcs m := by simp [fcs]
theorem flts_succ (r : Ru) (i n : Nat) : flts r i (n + 1) = if r.at n = true then flts r i n ++ [(n, i)] else flts r i n := by
  unfold flts
  rw [List.range_succ, List.filter_append, List.map_append]
  by_cases h : r.at n = true
  · simp [h]
  · simp [h]
theorem flts_len (r : Ru) (i n : Nat) : (flts r i n).length ≤ n := by
  unfold flts
  rw [List.length_map]
  exact Nat.le_trans (List.length_filter_le _ _) (by simp)
theorem allN_len (l : List Ev) : ∀ i, (allN l i).length ≤ i * 9
  | 0 => by simp [allN]
  | i + 1 => by
    have := allN_len l i
    have := flts_len (stR (hN l i) l[i]!) i 9
    simp only [allN, List.length_append]
    omega
theorem hN_ok {l : List Ev} (ha : l.all okE = true) (hf : ∀ e ∈ l, e.fit) : ∀ i, i ≤ l.length → (hN l i).ok i
  | 0, _ => ⟨Nat.zero_le _, fun j hj => (by cases hj), fun k n e => (by cases e), fun k n e => (by cases e), ⟨Int.le_refl _, (by omega : (0 : Int) ≤ 8)⟩⟩
  | i + 1, hi => by
    have hm : l[i]! ∈ l := by rw [getElem!_pos l i (by omega)]; exact List.getElem_mem (by omega)
    exact stp_ok (hN_ok ha hf i (by omega)) (List.all_eq_true.1 ha _ hm) (hf _ hm).ts
theorem Try.infoF : (Try.prog.info? 25).map (fun i => (i.zero, i.size, i.bytes)) = some (some (.agg #[.int .i64 0, .int .i64 0]), 2, 16) := by kernel_rfl
theorem Hm.grown {w w' : World} {B b : Nat} {h : Hs} {s : Hi} (H : Hm w B b h s) {row : Option Nat} (hg : w.grownBy w' row) (hr : ∀ k, row = some k → Out w k) : Hm w' B b h s := by
  cases row with
  | none => exact H.below ⟨hg.os, hg.tape, hg.output, hg.size, fun k hk => hg.block k hk (by simp)⟩
  | some k => exact H.other (hr k rfl) hg
theorem own_out {w : World} {base n size : Nat} {v : Value} {xs : List Value} (h : w.ownsRow base 25 size v n xs) (k : Nat) (hk : v.ownBlock = some k) : Out w k := by
  obtain ⟨c, hc⟩ := own_type h k hk
  exact ⟨_, _, _, hc, by decide, by decide, by decide⟩
theorem idx_rul (r : Ru) (W : World) {j : Nat} (hj : j < 9) : (Instr.index 60 r.v (.int .i64 (j : Int))).run Try.prog W = .ok (.bool (r.at j)) W := by
  have : j = 0 ∨ j = 1 ∨ j = 2 ∨ j = 3 ∨ j = 4 ∨ j = 5 ∨ j = 6 ∨ j = 7 ∨ j = 8 := by omega
  obtain ⟨a1, a2, a3, a4, a5, a6, a7, a8⟩ := r
  rcases this with rfl | rfl | rfl | rfl | rfl | rfl | rfl | rfl | rfl <;> rfl
theorem ones2 {a c : Int} : ∀ u ∈ [Value.int .i64 a, Value.int .i64 c], u.oneCell' = true := by
  intro u hu
  simp at hu
  rcases hu with rfl | rfl <;> rfl
section
variable {w w' : World}
/-- what All answers -/
def AlP (l : List Ev) (w : World) (e : Ending) (w' : World) : Prop := ∃ ov, e = .returned (.tuple #[ov, .int .i64 (allE l)]) ∧ w'.ownsRow w.heap.size 25 2 ov (allL l).length (fcs (allL l)) ∧ Below w.heap.size w w'
set_option maxHeartbeats 16000000 in
theorem all_any {v : Value} {l : List Ev} (hr : Rv w v l) (hf : ∀ e ∈ l, e.fit) : Calls Try.prog 11 #[v] w (AlP l w) := by
  obtain ⟨iF, hiF, zF0, zF1, zF2⟩ := info_parts Try.infoF
  obtain ⟨p, cap, rfl, _⟩ := hr.shape
  have HR := hide hr
  have HFit := hide hf
  have HKi := hide (kinds_any w)
  clear hr hf
  by_cases hE : allE l = 0
  case neg =>
    have hne : (allE l != 0) = true := by simpa using hE
    have HA : Hid (allL l = []) := hide (by unfold allL; rw [if_neg hE])
    have HCk : Hid (∀ W, W.heap[w.heap.size]? = some (.cells kcs 65 (0, 0)) → Below w.heap.size w W → Calls Try.prog 18 #[.slice (some ⟨w.heap.size, 0, none⟩) 15 15, .slice p l.length cap] W fun r w' => r = .returned (.int .i64 (allE l)) ∧ Below W.heap.size W w') := hide fun W h1 h2 => check_any h1 (HR.out.below h2)
    unfold AlP
    generalize allE l = AE at *
    clear hE
    go_enter Try.func11, Try.ntmps11
    go_wp2_with fail
    refine HKi.out.mono ?_
    rintro e w1 ⟨rfl, hk1, hb1⟩
    have HC1 := hide (HCk.out _ hk1 hb1)
    have HB1 := hide hb1
    clear hk1 hb1
    go_wp2_with fail
    refine HC1.out.mono ?_
    rintro e w2 ⟨rfl, hb2⟩
    have HB2 := hide (below_of HB1.out hb2)
    clear hb2
    go_wp2_with fail
    go_ret2
    exact ⟨.slice none 0 0, rfl, by rw [HA.out]; exact World.ownsRow_nil _ _ _ _, HB2.out⟩
  have HA : Hid (allL l = allN l l.length) := hide (by unfold allL; rw [if_pos hE])
  have HAll : Hid (l.all okE = true ∧ l.length ≤ 65536) := hide (by
    unfold allE at hE
    split at hE
    · cases hE
    · split at hE
      · rename_i h1 h2; exact ⟨h2, by omega⟩
      · cases hE)
  have HCk : Hid (∀ W, W.heap[w.heap.size]? = some (.cells kcs 65 (0, 0)) → Below w.heap.size w W → Calls Try.prog 18 #[.slice (some ⟨w.heap.size, 0, none⟩) 15 15, .slice p l.length cap] W fun r w' => r = .returned (.int .i64 (allE l)) ∧ Below W.heap.size W w') := hide fun W h1 h2 => check_any h1 (HR.out.below h2)
  unfold AlP
  rw [hE] at HCk ⊢
  have hl16 : (l.length : Int) ≤ 65536 := by have := HAll.out.2; omega
  clear hE
  go_enter Try.func11, Try.ntmps11
  go_wp2_with fail
  refine HKi.out.mono ?_
  rintro e w1 ⟨rfl, hk1, hb1⟩
  have HC1 := hide (HCk.out _ hk1 hb1)
  have HB1 := hide hb1
  have HKb1 := hide hk1
  clear hk1 hb1
  generalize hkbd : w.heap.size = kb at *
  have HKd := hide hkbd
  clear hkbd
  go_wp2_with fail
  refine HC1.out.mono ?_
  rintro e w2 ⟨rfl, hb2⟩
  have HB2 : Hid (Below w.heap.size w w2) := hide (below_of (by rw [HKd.out]; exact HB1.out) hb2)
  have HKb2 := hide ((hb2.block _ (lt_of_block HKb1.out)).trans HKb1.out)
  have HNH := hide (newHistory_any (B := w2.heap.size) w2 (Nat.le_refl _))
  clear hb2
  go_wp2_with fail
  refine HNH.out.mono ?_
  rintro e w3 ⟨b, rfl, ⟨s0, hm0⟩, hb3⟩
  have HM0 := hide hm0
  have HB3 := hide hb3
  clear hm0 hb3
  go_wp2_with fail
  go_loopw [7, 22] (fun o u wr => ∃ i : Nat, u = .int .i64 (i : Int) ∧ i ≤ l.length ∧ Hid (∃ s, Hm wr w2.heap.size b (hN l i) s) ∧ Hid (Below w2.heap.size w2 wr) ∧ Hid (wr.ownsRow w2.heap.size 25 2 o (allN l i).length (fcs (allN l i)))) (fun _ u _ => (l.length - (intOf u).toNat))
  case atStart => exact ⟨0, rfl, Nat.zero_le _, hide ⟨_, HM0.out⟩, HB3, hide (World.ownsRow_nil _ _ _ _)⟩
  case round =>
    obtain ⟨i, rfl, hi, HMr, HBr, HO⟩ := hrel
    by_cases hil : i < l.length
    · obtain ⟨ad0, cap0, ho0⟩ := own_slice HO.out
      subst ho0
      obtain ⟨ab, ao, hpa, hab, hx⟩ := (HR.out.below HB2.out).at (by omega)
      obtain ⟨q, cq, ht, hcs⟩ := hx i hil
      have hmem : l[i]! ∈ l := by rw [getElem!_pos l i hil]; exact List.getElem_mem hil
      have hfd := HFit.out _ hmem
      have hod := List.all_eq_true.1 HAll.out.1 _ hmem
      have hokh := hN_ok HAll.out.1 HFit.out i hi
      have hst : hN l (i + 1) = stp (hN l i) l[i]! := rfl
      have han : allN l (i + 1) = allN l i ++ flts (stR (hN l i) l[i]!) i 9 := rfl
      have hlen := allN_len l i
      have hi16 : i ≤ 65536 := by have := HAll.out.2; omega
      generalize l[i]! = d at *
      have hkk := okE_k hod
      obtain ⟨dk, eo, en, el, ej, eb, ei, ec, es, er, ew, ex, et⟩ := d
      dsimp only at hkk ht
      obtain ⟨kN, rfl⟩ : ∃ kN : Nat, dk = (kN : Int) := ⟨dk.toNat, by omega⟩
      have hkN : kN < 15 := by omega
      subst hpa
      have e0 : wr.cell? ⟨ab, ao + i * 13, none⟩ = some (.int .i64 (kN : Int)) := (HBr.out.cell (p := ⟨ab, ao + i * 13, none⟩) hab).trans (hcs 0 _ rfl)
      have e1 : wr.cell? ⟨ab, ao + i * 13 + 1, none⟩ = some (.int .i64 eo) := (HBr.out.cell (p := ⟨ab, ao + i * 13 + 1, none⟩) hab).trans (hcs 1 _ rfl)
      have e2 : wr.cell? ⟨ab, ao + i * 13 + 2, none⟩ = some (.int .i64 en) := (HBr.out.cell (p := ⟨ab, ao + i * 13 + 2, none⟩) hab).trans (hcs 2 _ rfl)
      have e3 : wr.cell? ⟨ab, ao + i * 13 + 3, none⟩ = some (.int .i64 el) := (HBr.out.cell (p := ⟨ab, ao + i * 13 + 3, none⟩) hab).trans (hcs 3 _ rfl)
      have e4 : wr.cell? ⟨ab, ao + i * 13 + 4, none⟩ = some (.int .i64 ej) := (HBr.out.cell (p := ⟨ab, ao + i * 13 + 4, none⟩) hab).trans (hcs 4 _ rfl)
      have e5 : wr.cell? ⟨ab, ao + i * 13 + 5, none⟩ = some (.int .i64 eb) := (HBr.out.cell (p := ⟨ab, ao + i * 13 + 5, none⟩) hab).trans (hcs 5 _ rfl)
      have e6 : wr.cell? ⟨ab, ao + i * 13 + 6, none⟩ = some (.int .i64 ei) := (HBr.out.cell (p := ⟨ab, ao + i * 13 + 6, none⟩) hab).trans (hcs 6 _ rfl)
      have e7 : wr.cell? ⟨ab, ao + i * 13 + 7, none⟩ = some (.int .i64 ec) := (HBr.out.cell (p := ⟨ab, ao + i * 13 + 7, none⟩) hab).trans (hcs 7 _ rfl)
      have e8 : wr.cell? ⟨ab, ao + i * 13 + 8, none⟩ = some (.int .i64 es) := (HBr.out.cell (p := ⟨ab, ao + i * 13 + 8, none⟩) hab).trans (hcs 8 _ rfl)
      have e9 : wr.cell? ⟨ab, ao + i * 13 + 9, none⟩ = some (.int .i64 er) := (HBr.out.cell (p := ⟨ab, ao + i * 13 + 9, none⟩) hab).trans (hcs 9 _ rfl)
      have e10 : wr.cell? ⟨ab, ao + i * 13 + 10, none⟩ = some (.int .u64 ew) := (HBr.out.cell (p := ⟨ab, ao + i * 13 + 10, none⟩) hab).trans (hcs 10 _ rfl)
      have e11 : wr.cell? ⟨ab, ao + i * 13 + 11, none⟩ = some (.string ex) := (HBr.out.cell (p := ⟨ab, ao + i * 13 + 11, none⟩) hab).trans (hcs 11 _ rfl)
      have e12 : wr.cell? ⟨ab, ao + i * 13 + 12, none⟩ = some (.slice q et.length cq) := (HBr.out.cell (p := ⟨ab, ao + i * 13 + 12, none⟩) hab).trans (hcs 12 _ rfl)
      obtain ⟨s1, hm1⟩ := HMr.out
      have hkb2 : kb < w2.heap.size := lt_of_block HKb2.out
      have HKB := hide hkb2
      have hkbr : wr.heap[kb]? = some (.cells kcs 65 (0, 0)) := (HBr.out.block _ hkb2).trans HKb2.out
      have hW9 : Below w2.heap.size w2 (wr.alloc (.cells #[.int .i64 (kN : Int), .int .i64 eo, .int .i64 en, .int .i64 el, .int .i64 ej, .int .i64 eb, .int .i64 ei, .int .i64 ec, .int .i64 es, .int .i64 er, .int .u64 ew, .string ex, .slice q et.length cq] 43)).drew := (HBr.out.trans ((below_alloc wr (.cells #[.int .i64 (kN : Int), .int .i64 eo, .int .i64 en, .int .i64 el, .int .i64 ej, .int .i64 eb, .int .i64 ei, .int .i64 ec, .int .i64 es, .int .i64 er, .int .u64 ew, .string ex, .slice q et.length cq] 43)).mono HBr.out.size)).drew
      have HNx := hide (next_any (w := (wr.alloc (.cells #[.int .i64 (kN : Int), .int .i64 eo, .int .i64 en, .int .i64 el, .int .i64 ej, .int .i64 eb, .int .i64 ei, .int .i64 ec, .int .i64 es, .int .i64 er, .int .u64 ew, .string ex, .slice q et.length cq] 43)).drew) (w0 := w2) (hm1.below (below_alloc wr (.cells #[.int .i64 (kN : Int), .int .i64 eo, .int .i64 en, .int .i64 el, .int .i64 ej, .int .i64 eb, .int .i64 ei, .int .i64 ec, .int .i64 es, .int .i64 er, .int .u64 ew, .string ex, .slice q et.length cq] 43)).drew) (Nat.le_refl _) hW9 hokh hi16 ⟨(kN : Int), eo, en, el, ej, eb, ei, ec, es, er, ew, ex, et⟩ (fun W hb => ht.below hb) hfd hod rfl)
      have HOb := hide (own_keep (w' := (wr.alloc (.cells #[.int .i64 (kN : Int), .int .i64 eo, .int .i64 en, .int .i64 el, .int .i64 ej, .int .i64 eb, .int .i64 ei, .int .i64 ec, .int .i64 es, .int .i64 er, .int .u64 ew, .string ex, .slice q et.length cq] 43)).drew) HO.out fun k e => Below.heap_alloc wr _ k (HO.out.lt k e).2)
      unfold stv at HNx
      generalize hRU : stR (hN l i) ⟨(kN : Int), eo, en, el, ej, eb, ei, ec, es, er, ew, ex, et⟩ = RU at *
      generalize hS1 : stp (hN l i) ⟨(kN : Int), eo, en, el, ej, eb, ei, ec, es, er, ew, ex, et⟩ = h2 at *
      have hidx := fun (W : World) (j : Nat) (hj : j < 9) => idx_rul RU W hj
      have HAn := hide han
      have HSt := hide hst
      generalize hRV : RU.v = RV at *
      have HIdx := hide hidx
      have HS0 : Hid ((fun V => V.heap[wr.heap.size]? = some (.cells #[.int .i64 (kN : Int), .int .i64 eo, .int .i64 en, .int .i64 el, .int .i64 ej, .int .i64 eb, .int .i64 ei, .int .i64 ec, .int .i64 es, .int .i64 er, .int .u64 ew, .string ex, .slice q et.length cq] 43 (0, 0)) ∧ V.heap[kb]? = some (.cells kcs 65 (0, 0))) ((wr.alloc (.cells #[.int .i64 (kN : Int), .int .i64 eo, .int .i64 en, .int .i64 el, .int .i64 ej, .int .i64 eb, .int .i64 ei, .int .i64 ec, .int .i64 es, .int .i64 er, .int .u64 ew, .string ex, .slice q et.length cq] 43)).drew)) := hide ⟨heap_alloc_new wr _, (Below.heap_alloc wr _ _ (Nat.lt_of_lt_of_le hkb2 HBr.out.size)).trans hkbr⟩
      have HCe : Hid (∀ w' : World, (fun V => V.heap[wr.heap.size]? = some (.cells #[.int .i64 (kN : Int), .int .i64 eo, .int .i64 en, .int .i64 el, .int .i64 ej, .int .i64 eb, .int .i64 ei, .int .i64 ec, .int .i64 es, .int .i64 er, .int .u64 ew, .string ex, .slice q et.length cq] 43 (0, 0)) ∧ V.heap[kb]? = some (.cells kcs 65 (0, 0))) w' → w'.cell? ⟨wr.heap.size, 0, none⟩ = some (.int .i64 (kN : Int)) ∧ w'.cell? ⟨wr.heap.size, 1, none⟩ = some (.int .i64 eo) ∧ w'.cell? ⟨wr.heap.size, 2, none⟩ = some (.int .i64 en) ∧ w'.cell? ⟨wr.heap.size, 3, none⟩ = some (.int .i64 el) ∧ w'.cell? ⟨wr.heap.size, 4, none⟩ = some (.int .i64 ej) ∧ w'.cell? ⟨wr.heap.size, 5, none⟩ = some (.int .i64 eb) ∧ w'.cell? ⟨wr.heap.size, 6, none⟩ = some (.int .i64 ei) ∧ w'.cell? ⟨wr.heap.size, 7, none⟩ = some (.int .i64 ec) ∧ w'.cell? ⟨wr.heap.size, 8, none⟩ = some (.int .i64 es) ∧ w'.cell? ⟨wr.heap.size, 9, none⟩ = some (.int .i64 er) ∧ w'.cell? ⟨wr.heap.size, 10, none⟩ = some (.int .u64 ew) ∧ w'.cell? ⟨wr.heap.size, 11, none⟩ = some (.string ex) ∧ w'.cell? ⟨wr.heap.size, 12, none⟩ = some (.slice q et.length cq) ∧ w'.cell? ⟨kb, kN * 4, none⟩ = some (rowc kN 0) ∧ w'.cell? ⟨kb, kN * 4 + 1, none⟩ = some (rowc kN 1) ∧ w'.cell? ⟨kb, kN * 4 + 2, none⟩ = some (rowc kN 2) ∧ w'.cell? ⟨kb, kN * 4 + 3, none⟩ = some (rowc kN 3)) := hide fun w' hw => ⟨by simp [World.cell?, hw.1], by simp [World.cell?, hw.1], by simp [World.cell?, hw.1], by simp [World.cell?, hw.1], by simp [World.cell?, hw.1], by simp [World.cell?, hw.1], by simp [World.cell?, hw.1], by simp [World.cell?, hw.1], by simp [World.cell?, hw.1], by simp [World.cell?, hw.1], by simp [World.cell?, hw.1], by simp [World.cell?, hw.1], by simp [World.cell?, hw.1], kcs_cell hw.2 (k := kN) (j := 0) hkN (by decide), kcs_cell hw.2 (k := kN) (j := 1) hkN (by decide), kcs_cell hw.2 (k := kN) (j := 2) hkN (by decide), kcs_cell hw.2 (k := kN) (j := 3) hkN (by decide)⟩
      have HW9 := hide hW9
      have Hlen := hide hlen
      have kk3 : kN < 15 := hkN
      have kk6 : (kN : Int) < 15 := by omega
      have HBsz : Hid (w2.heap.size ≤ wr.heap.size) := hide HBr.out.size
      clear hx hcs ht hmem hfd hod hokh hst han hlen hkk hm1 hkbr hW9 hRU hS1 hidx hRV hkb2
      go_wp2_with fail
      refine wp_region_held_drew (S := fun V => V.heap[wr.heap.size]? = some (.cells #[.int .i64 (kN : Int), .int .i64 eo, .int .i64 en, .int .i64 el, .int .i64 ej, .int .i64 eb, .int .i64 ei, .int .i64 ec, .int .i64 es, .int .i64 er, .int .u64 ew, .string ex, .slice q et.length cq] 43 (0, 0)) ∧ V.heap[kb]? = some (.cells kcs 65 (0, 0))) (by kernel_rfl) (HS0.out) (fun hHeld => ?_)
      refine wpAnyH_take (i := 0) (v := .pointer (some ⟨b, 0, none⟩)) rfl (by kernel_rfl) (by kernel_rfl) (by kernel_rfl) (fun _ _ _ h => h) (Or.inl ⟨by kernel_rfl, fun w1 hSw => by clear hHeld; obtain ⟨g0, g1, g2, g3, g4, g5, g6, g7, g8, g9, g10, g11, g12, g13, g14, g15, g16⟩ := HCe.out _ hSw; go_simp⟩) hHeld ?_
      try simp only [Act.put]
      try simp only [List.getElem_toArray]
      try simp only [List.getElem_cons_succ]
      try simp only [List.getElem_cons_zero]
      try simp only [List.setIfInBounds_toArray]
      try simp only [List.set_cons_succ, List.set_cons_zero]
      refine wpAnyH_take (i := 1) (v := .slice (some ⟨kb, 0, none⟩) 15 15) rfl (by kernel_rfl) (by kernel_rfl) (by kernel_rfl) (fun _ _ _ h => h) (Or.inl ⟨by kernel_rfl, fun w1 hSw => by clear hHeld; obtain ⟨g0, g1, g2, g3, g4, g5, g6, g7, g8, g9, g10, g11, g12, g13, g14, g15, g16⟩ := HCe.out _ hSw; go_simp⟩) hHeld ?_
      try simp only [Act.put]
      try simp only [List.getElem_toArray]
      try simp only [List.getElem_cons_succ]
      try simp only [List.getElem_cons_zero]
      try simp only [List.setIfInBounds_toArray]
      try simp only [List.set_cons_succ, List.set_cons_zero]
      refine wpAnyH_take (i := 2) (v := .pointer (some ⟨wr.heap.size, 0, none⟩)) rfl (by kernel_rfl) (by kernel_rfl) (by kernel_rfl) (fun _ _ _ h => h) (Or.inl ⟨by kernel_rfl, fun w1 hSw => by clear hHeld; obtain ⟨g0, g1, g2, g3, g4, g5, g6, g7, g8, g9, g10, g11, g12, g13, g14, g15, g16⟩ := HCe.out _ hSw; go_simp⟩) hHeld ?_
      try simp only [Act.put]
      try simp only [List.getElem_toArray]
      try simp only [List.getElem_cons_succ]
      try simp only [List.getElem_cons_zero]
      try simp only [List.setIfInBounds_toArray]
      try simp only [List.set_cons_succ, List.set_cons_zero]
      refine wpAnyH_take (i := 3) (v := .int .i64 (kN : Int)) rfl (by kernel_rfl) (by kernel_rfl) (by kernel_rfl) (fun _ _ _ h => h) (Or.inl ⟨by kernel_rfl, fun w1 hSw => by clear hHeld; obtain ⟨g0, g1, g2, g3, g4, g5, g6, g7, g8, g9, g10, g11, g12, g13, g14, g15, g16⟩ := HCe.out _ hSw; go_simp⟩) hHeld ?_
      try simp only [Act.put]
      try simp only [List.getElem_toArray]
      try simp only [List.getElem_cons_succ]
      try simp only [List.getElem_cons_zero]
      try simp only [List.setIfInBounds_toArray]
      try simp only [List.set_cons_succ, List.set_cons_zero]
      refine wpAnyH_take (i := 4) (v := .pointer (some ⟨kb, kN * 4, none⟩)) rfl (by kernel_rfl) (by kernel_rfl) (by kernel_rfl) (fun _ _ _ h => h) (Or.inl ⟨by kernel_rfl, fun w1 hSw => by clear hHeld; obtain ⟨g0, g1, g2, g3, g4, g5, g6, g7, g8, g9, g10, g11, g12, g13, g14, g15, g16⟩ := HCe.out _ hSw; go_simp⟩) hHeld ?_
      try simp only [Act.put]
      try simp only [List.getElem_toArray]
      try simp only [List.getElem_cons_succ]
      try simp only [List.getElem_cons_zero]
      try simp only [List.setIfInBounds_toArray]
      try simp only [List.set_cons_succ, List.set_cons_zero]
      refine wpAnyH_take (i := 5) (v := .agg #[rowc kN 0, rowc kN 1, rowc kN 2, rowc kN 3]) rfl (by kernel_rfl) (by kernel_rfl) (by kernel_rfl) (fun _ _ _ h => h) (Or.inl ⟨by kernel_rfl, fun w1 hSw => by clear hHeld; obtain ⟨g0, g1, g2, g3, g4, g5, g6, g7, g8, g9, g10, g11, g12, g13, g14, g15, g16⟩ := HCe.out _ hSw; go_simp⟩) hHeld ?_
      try simp only [Act.put]
      try simp only [List.getElem_toArray]
      try simp only [List.getElem_cons_succ]
      try simp only [List.getElem_cons_zero]
      try simp only [List.setIfInBounds_toArray]
      try simp only [List.set_cons_succ, List.set_cons_zero]
      refine wpAnyH_take (i := 6) (v := .agg #[.int .i64 (kN : Int), .int .i64 eo, .int .i64 en, .int .i64 el, .int .i64 ej, .int .i64 eb, .int .i64 ei, .int .i64 ec, .int .i64 es, .int .i64 er, .int .u64 ew, .string ex, .slice q et.length cq]) rfl (by kernel_rfl) (by kernel_rfl) (by kernel_rfl) (fun _ _ _ h => h) (Or.inl ⟨by kernel_rfl, fun w1 hSw => by clear hHeld; obtain ⟨g0, g1, g2, g3, g4, g5, g6, g7, g8, g9, g10, g11, g12, g13, g14, g15, g16⟩ := HCe.out _ hSw; go_simp⟩) hHeld ?_
      try simp only [Act.put]
      try simp only [List.getElem_toArray]
      try simp only [List.getElem_cons_succ]
      try simp only [List.getElem_cons_zero]
      try simp only [List.setIfInBounds_toArray]
      try simp only [List.set_cons_succ, List.set_cons_zero]
      refine wpAnyH_take (i := 8) (v := .int .i64 0) rfl (by kernel_rfl) (by kernel_rfl) (by kernel_rfl) (fun _ _ _ h => h) (Or.inl ⟨by kernel_rfl, fun w1 hSw => by clear hHeld; obtain ⟨g0, g1, g2, g3, g4, g5, g6, g7, g8, g9, g10, g11, g12, g13, g14, g15, g16⟩ := HCe.out _ hSw; go_simp⟩) hHeld ?_
      try simp only [Act.put]
      try simp only [List.getElem_toArray]
      try simp only [List.getElem_cons_succ]
      try simp only [List.getElem_cons_zero]
      try simp only [List.setIfInBounds_toArray]
      try simp only [List.set_cons_succ, List.set_cons_zero]
      refine wpAnyH_ready (rs := [7]) (by kernel_rfl) (by simp) ?_
      refine AllReadyH.cons rfl (fun K hK => ?_) AllReadyH.nil
      go_simp
      refine HNx.out.mono ?_
      rintro e W1 ⟨rfl, ⟨s1, hm1⟩, hk1⟩
      have HM1 := hide hm1
      have HK1 := hide hk1
      have HS1 : Hid ((fun V => V.heap[wr.heap.size]? = some (.cells #[.int .i64 (kN : Int), .int .i64 eo, .int .i64 en, .int .i64 el, .int .i64 ej, .int .i64 eb, .int .i64 ei, .int .i64 ec, .int .i64 es, .int .i64 er, .int .u64 ew, .string ex, .slice q et.length cq] 43 (0, 0)) ∧ V.heap[kb]? = some (.cells kcs 65 (0, 0))) W1) := hide ⟨box_kt hk1 hHeld.1, (hk1.block _ (lt_of_block hHeld.2) (.inl HKB.out)).trans hHeld.2⟩
      clear hm1 hk1
      refine hK.out _ _ (HS1.out) (fun hHeld => ?_)
      clear hK K
      try simp only [Act.put]
      try simp only [List.getElem_toArray]
      try simp only [List.getElem_cons_succ]
      try simp only [List.getElem_cons_zero]
      try simp only [List.setIfInBounds_toArray]
      try simp only [List.set_cons_succ, List.set_cons_zero]
      refine wpAnyH_done (by kernel_rfl) ?_ _
      go_wp2_with fail
      have HB10 : Hid (Below w2.heap.size w2 W1) := hide (HW9.out.trans (HK1.out.low (Nat.le_trans HBsz.out (by show wr.heap.size ≤ (wr.alloc _).heap.size; rw [World.size_alloc]; omega))))
      have HO1 : Hid (W1.ownsRow w2.heap.size 25 2 (.slice ad0 (allN l i).length cap0) (allN l i).length (fcs (allN l i))) := hide (own_keep HOb.out fun k e => HK1.out.block k (HOb.out.lt k e).2 (.inr (own_out HOb.out k e)))
      go_loopw [7, 35] (fun o u wx => ∃ j : Nat, u = .int .i64 (j : Int) ∧ j ≤ 9 ∧ Hid (∃ s, Hm wx w2.heap.size b h2 s) ∧ Hid (Below w2.heap.size w2 wx) ∧ Hid (wx.ownsRow w2.heap.size 25 2 o (allN l i ++ flts RU i j).length (fcs (allN l i ++ flts RU i j)))) (fun _ u _ => (9 - (intOf u).toNat))
      case atStart => exact ⟨0, rfl, Nat.zero_le _, hide ⟨_, HM1.out⟩, HB10, hide (by
        have e : allN l i ++ flts RU i 0 = allN l i := by simp [flts]
        rw [e]
        exact HO1.out)⟩
      case round =>
        obtain ⟨j, rfl, hj, HMx, HBx, HOx⟩ := hrel
        by_cases hj9 : j < 9
        · have hix := fun W => HIdx.out W j hj9
          have HFl := hide (flts_succ RU i j)
          have hLn : (allN l i ++ flts RU i j).length ≤ 1000000 := by have h1 := Hlen.out; have h2 := flts_len RU i j; rw [List.length_append]; omega
          obtain ⟨adx, capx, hox⟩ := own_slice HOx.out
          subst hox
          have j9 : (j : Int) < 9 := by omega
          cases hat : RU.at j with
          | false =>
            rw [hat] at hix
            have HO2 : Hid (wr.ownsRow w2.heap.size 25 2 (.slice adx (allN l i ++ flts RU i j).length capx) (allN l i ++ flts RU i (j + 1)).length (fcs (allN l i ++ flts RU i (j + 1)))) := hide (by rw [HFl.out, hat, if_neg (by decide)]; exact HOx.out)
            clear hat
            go_wp2_with fail
            exact ⟨⟨j + 1, by go_num, by omega, HMx, HBx, HO2⟩, by simp [intOf]; omega⟩
          | true =>
            rw [hat] at hix
            have HAp : Hid (fcs (allN l i ++ flts RU i (j + 1)) = fcs (allN l i ++ flts RU i j) ++ [.int .i64 (j : Int), .int .i64 (i : Int)] ∧ (allN l i ++ flts RU i (j + 1)).length = (allN l i ++ flts RU i j).length + 1) := hide (by rw [HFl.out, hat, if_pos rfl, ← List.append_assoc, fcs_app]; exact ⟨rfl, by simp; omega⟩)
            have HB11 := hide (below_alloc wr (.cells #[.int .i64 (j : Int), .int .i64 (i : Int)] 25))
            have hBsz : w2.heap.size ≤ (wr.alloc (.cells #[.int .i64 (j : Int), .int .i64 (i : Int)] 25)).heap.size := Nat.le_trans HBx.out.size HB11.out.size
            have HOy := hide (own_keep (w' := wr.alloc (.cells #[.int .i64 (j : Int), .int .i64 (i : Int)] 25)) HOx.out fun k e => HB11.out.block k (HOx.out.lt k e).2)
            generalize hLL : (allN l i ++ flts RU i j).length = n at *
            generalize fcs (allN l i ++ flts RU i j) = xs at *
            have hn1 : n + 1 ≤ maxLen := by unfold maxLen; omega
            have hn2 : (n + 1) * 16 ≤ 140737488355328 := by omega
            clear hat hLL
            go_wp2_with (at_builtin; refine wpList_append_own _ rfl _ _ 29 rfl w2.heap.size 25 iF (.agg #[.int .i64 0, .int .i64 0]) 2 16 Try.underlying29 hiF zF0 zF1 zF2 rfl (by decide) (.slice adx n capx) n xs rfl HOy.out ⟨wr.heap.size, 0, none⟩ 1 1 [.int .i64 (j : Int), .int .i64 (i : Int)] rfl rfl (World.news_of_block (heap_alloc_new wr _)) ones2 hn1 hn2 hBsz ?_; intro v' wy hown hgrow hnil; have HOz := hide hown; have HGz := hide hgrow; clear hown hgrow hnil)
            have HMz : Hid (∃ s, Hm wy w2.heap.size b h2 s) := hide (by
              obtain ⟨s2, hm2⟩ := HMx.out
              exact ⟨s2, (hm2.below HB11.out).grown HGz.out fun k e => own_out HOy.out k e⟩)
            have HBz : Hid (Below w2.heap.size w2 wy) := hide ((HBx.out.trans (HB11.out.mono HBx.out.size)).grown HGz.out hBsz fun k e => own_lo HOy.out k e)
            exact ⟨⟨j + 1, by go_num, by omega, HMz, HBz, hide (by rw [HAp.out.1, HAp.out.2]; exact HOz.out)⟩, by simp [intOf]; omega⟩
        · obtain rfl : j = 9 := by omega
          obtain ⟨adx, capx, hox⟩ := own_slice HOx.out
          subst hox
          have HMs : Hid (∃ s, Hm wr w2.heap.size b (hN l (i + 1)) s) := hide (by rw [HSt.out]; exact HMx.out)
          have HOs : Hid (wr.ownsRow w2.heap.size 25 2 (.slice adx (allN l i ++ flts RU i 9).length capx) (allN l (i + 1)).length (fcs (allN l (i + 1)))) := hide (by rw [HAn.out]; exact HOx.out)
          go_wp2_with fail
          exact ⟨⟨i + 1, by go_num, by omega, HMs, HBx, HOs⟩, by simp [intOf]; omega⟩
    · obtain rfl : i = l.length := by omega
      have hki : ¬ ((l.length : Int) < (l.length : Int)) := by omega
      obtain ⟨ad0, cap0, ho0⟩ := own_slice HO.out
      subst ho0
      go_wp2_with fail
      go_ret2
      exact ⟨_, rfl, by rw [HA.out, ← HKd.out]; exact own_base HO.out HB2.out.size, HB2.out.trans (HBr.out.mono HB2.out.size)⟩
end
end Go.Proofs.Ytjfgmdiafhkbgaa
