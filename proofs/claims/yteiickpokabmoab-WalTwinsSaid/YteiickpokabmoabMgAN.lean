import Derived.Test.YteiickpokabmoabMgAM

section
namespace Go.Proofs.Yteiickpokabmoab
open Go.RowKit Go.Shelf
open Wl (Hd WS Log)

def zeroLog : Array Value := #[.int .u64 0, .int .u8 0, .int .i64 0, .int .i64 0, .string ⟨#[]⟩, .slice none 0 0]
def logC (h : Hd) (s : ByteArray) (v : Value) : Array Value := #[.int .u64 (h.num : Int), .int .u8 (h.half : Int), .int .i64 (h.sn : Int), .int .i64 (h.lg : Int), .string s, v]
def LPost (w : World) (x : Option Log) (e : Ending) (w' : World) : Prop :=
  Below w.heap.size w w' ∧ match x with
    | some L => ∃ v, e = .returned (.tuple #[.agg (logC L.h L.s v), .bool true]) ∧ w'.ownsRow w.heap.size 9 1 v L.l.length (L.l.map .string)
    | none => e = .returned (.tuple #[.agg zeroLog, .bool false])
theorem zbox {w0 w : World} {X : Nat} {cs : Array Value} {t : TypeId} (h : w0.heap[X]? = some (.cells cs t (0, 0))) (hb : Below w0.heap.size w0 w) : w.heap[X]? = some (.cells cs t (0, 0)) := (hb.block _ (lt_of_block h)).trans h
theorem log_cells {w : World} {X : Nat} {a b c d e f : Value} {t : TypeId} (h : w.heap[X]? = some (.cells #[a, b, c, d, e, f] t (0, 0))) : w.cell? ⟨X, 0, none⟩ = some a ∧ w.cell? ⟨X, 1, none⟩ = some b ∧ w.cell? ⟨X, 2, none⟩ = some c ∧ w.cell? ⟨X, 3, none⟩ = some d ∧ w.cell? ⟨X, 4, none⟩ = some e ∧ w.cell? ⟨X, 5, none⟩ = some f ∧ ∀ k, w.frozen? ⟨X, k, none⟩ = false := by
  refine ⟨?_, ?_, ?_, ?_, ?_, ?_, ?_⟩
  all_goals first | (unfold World.cell?; rw [h]; rfl) | (intro k; unfold World.frozen?; rw [h]; simp)
theorem parse_lt (s : ByteArray) : (Wl.parse s).num < 18446744073709551616 ∧ (Wl.parse s).half < 256 ∧ (Wl.parse s).sn < 4294967296 ∧ (Wl.parse s).lg < 4294967296 := by
  have h1 := bitsV_lt s 0
  have h2 := bitsV_lt (s.extract 9 s.size) 0
  refine ⟨h1, UInt8.toNat_lt _, ?_, ?_⟩
  · show bitsV (s.extract 9 s.size) 0 / 4294967296 < _; omega
  · show bitsV (s.extract 9 s.size) 0 % 4294967296 < _; omega
theorem logOf_not {S : List ByteArray} {k : Nat} (h : ¬ Wl.Front S k (Wl.parse (S.getD k ByteArray.empty))) : Wl.logOf S k = none := if_neg h
theorem logOf_yes {S : List ByteArray} {k : Nat} (h : Wl.Front S k (Wl.parse (S.getD k ByteArray.empty))) : Wl.logOf S k = (Wl.unframe ⟨((Wl.stands S (Wl.parse (S.getD k ByteArray.empty))).drop (Wl.parse (S.getD k ByteArray.empty)).sn).toArray⟩).map fun l => ⟨Wl.parse (S.getD k ByteArray.empty), ⟨((Wl.stands S (Wl.parse (S.getD k ByteArray.empty))).take (Wl.parse (S.getD k ByteArray.empty)).sn).toArray⟩, l⟩ := if_pos h
end Go.Proofs.Yteiickpokabmoab
end

section
namespace Go.Proofs.Yteiickpokabmoab
open Go.RowKit Go.Shelf
open Wl (Hd WS Log)

set_option maxHeartbeats 1000000 in
set_option maxRecDepth 8000 in
theorem logOf_A {base : Nat} {w : World} {b : Nat} {F : Nat → Prop} {d : D.DS} (h : D.Dk base w b F d) (hd : d.dead = false) (hfit : Wl.Fits d.S.length) (k : Nat) (hk : k < 2) (hm : ¬ Wl.MayBe (Wl.parse (d.S.getD k ByteArray.empty)) (Wl.hb d.S.length)) :
    Calls Try.prog 43 #[.pointer (some ⟨b, 0, none⟩), .int .i64 (k : Int)] w (LPost w (Wl.logOf d.S k)) := by
  have hlen : 4 ≤ d.S.length := by obtain ⟨h1, _, h2⟩ := hfit; omega
  have hrd : d.read (k : Int) = (d.S.getD k ByteArray.empty, 0) := by unfold D.DS.read; rw [if_neg (by simp [hd]), if_neg (by omega)]; rfl
  have hs8 : (d.S.getD k ByteArray.empty).size = 128 := by
    rw [List.getD_eq_getElem?_getD, List.getElem?_eq_getElem (by omega)]; exact h.ok.s128.get _
  have HRd := hide (D.read_any (h.alloc (.cells zeroLog 63)) (k : Int))
  rw [hrd] at HRd
  have HD := hide h
  have HHb : Hid (∀ W : World, Below (w.alloc (.cells zeroLog 63)).heap.size (w.alloc (.cells zeroLog 63)) W → Calls Try.prog 26 #[.pointer (some ⟨b, 0, none⟩)] W fun e w' => e = .returned (.int .i64 (Wl.hb d.S.length : Int)) ∧ w' = W) := hide fun W hW => halfBytes_any ((HD.out.alloc _).below hW)
  have HNo := hide (logOf_not (S := d.S) (k := k))
  have HYe := hide (logOf_yes (S := d.S) (k := k))
  have HFr : Hid (Wl.Front d.S k (Wl.parse (d.S.getD k ByteArray.empty)) ↔ Wl.MayBe (Wl.parse (d.S.getD k ByteArray.empty)) (Wl.hb d.S.length) ∧ (Wl.parse (d.S.getD k ByteArray.empty)).num % 2 = k ∧ Wl.headB (Wl.parse (d.S.getD k ByteArray.empty)) = d.S.getD k ByteArray.empty) := hide Iff.rfl
  obtain ⟨X, hX⟩ : ∃ X, Wl.logOf d.S k = X := ⟨_, rfl⟩
  rw [hX] at HNo HYe ⊢
  clear h hX hrd
  have HPa := hide (fun W => parseHead_any (d.S.getD k ByteArray.empty) hs8 W)
  have HLt := hide (parse_lt (d.S.getD k ByteArray.empty))
  have HU := hide hfit
  generalize d.S.getD k ByteArray.empty = s at *
  have hlt := HLt.out
  have HMb := hide (fun W => mayBe_any (Wl.parse s) hlt.2.2.1 hlt.2.2.2 (Wl.hb d.S.length) W)
  have HBy := hide (fun W => bytes_any (Wl.parse s) hlt.1 hlt.2.1 hlt.2.2.1 hlt.2.2.2 W)
  have HUs := hide (fun W => used_any (Wl.parse s) (Nat.le_of_lt hlt.2.2.1) (Nat.le_of_lt hlt.2.2.2) W)
  generalize Wl.parse s = H at *
  obtain ⟨num, half, sn, lg⟩ := H
  have HZ : Hid ((w.alloc (.cells zeroLog 63)).heap[w.heap.size]? = some (.cells #[.int .u64 0, .int .u8 0, .int .i64 0, .int .i64 0, .string ⟨#[]⟩, .slice none 0 0] 63 (0, 0))) := hide (heap_alloc_new w _)
  clear hlt
  simp only [hdC] at *
  go_enter Try.func43, Try.ntmps43
  go_wp2_with fail
  refine HRd.out.mono ?_
  rintro e w' ⟨rfl, rfl⟩
  go_wp2_with fail
  refine (HPa.out _).mono ?_
  rintro e w1 ⟨rfl, hb1⟩
  have HB0 : Hid (Below (w.alloc (.cells zeroLog 63)).heap.size (w.alloc (.cells zeroLog 63)) (w1.alloc (.cells #[.int .u64 (num : Int), .int .u8 (half : Int), .int .i64 (sn : Int), .int .i64 (lg : Int)] 54)).drew) := hide ((hb1.alloc hb1.size _).trans ⟨rfl, rfl, rfl, Nat.le_refl _, fun _ _ => rfl⟩)
  obtain ⟨Y, hY⟩ : ∃ Y, w1.heap.size = Y := ⟨_, rfl⟩
  have hst : (w1.alloc (.cells #[.int .u64 (num : Int), .int .u8 (half : Int), .int .i64 (sn : Int), .int .i64 (lg : Int)] 54)).heap[Y]? = some (.cells #[.int .u64 (num : Int), .int .u8 (half : Int), .int .i64 (sn : Int), .int .i64 (lg : Int)] 54 (0, 0)) := by rw [← hY]; exact heap_alloc_new w1 _
  clear hb1 HRd HPa
  have HN : Hid (X = none) := hide (HNo.out fun h => hm (HFr.out.mp h).1)
  rw [decide_eq_false hm] at HMb
  clear hm HNo HYe HFr
  go_wp2_with fail
  refine wp_region_held_drew (S := fun w' => w'.heap[Y]? = some (.cells #[.int .u64 (num : Int), .int .u8 (half : Int), .int .i64 (sn : Int), .int .i64 (lg : Int)] 54 (0, 0))) (by kernel_rfl) (hst) (fun hHeld => ?_)
  refine wpAnyH_take (i := 0) (v := .agg #[.int .u64 (num : Int), .int .u8 (half : Int), .int .i64 (sn : Int), .int .i64 (lg : Int)]) rfl (by kernel_rfl) (by kernel_rfl) (by kernel_rfl) (fun _ _ _ h => h) (Or.inl ⟨by rfl, fun w1 hSw => by clear hHeld; obtain ⟨c0, c1, c2, c3⟩ := box_cells hSw; go_simp⟩) hHeld ?_
  simp only [Act.put, List.setIfInBounds_toArray]
  refine wpAnyH_take (i := 1) (v := .pointer (some ⟨b, 0, none⟩)) rfl (by kernel_rfl) (by kernel_rfl) (by kernel_rfl) (fun _ _ _ h => h) (Or.inl ⟨by rfl, fun w1 hSw => by clear hHeld; obtain ⟨c0, c1, c2, c3⟩ := box_cells hSw; go_simp⟩) hHeld ?_
  try simp only [Act.put]
  refine wpAnyH_ready (rs := [2]) (by kernel_rfl) (by simp) ?_
  refine AllReadyH.cons rfl (fun K hK => ?_) AllReadyH.nil
  go_simp
  refine (HHb.out _ HB0.out).mono ?_
  rintro e w0a ⟨rfl, rfl⟩
  have HB1 := HB0
  refine hK.out _ _ (hHeld) (fun hHeld => ?_)
  clear hK K
  refine wpAnyH_ready (rs := [3]) (by kernel_rfl) (by simp) ?_
  refine AllReadyH.cons rfl (fun K hK => ?_) AllReadyH.nil
  go_simp
  refine (HMb.out _).mono ?_
  rintro e w1a ⟨rfl, hb1⟩
  have HB2 := hide (HB1.out.trans (hb1.mono HB1.out.size))
  have hs1 := box_bl hHeld hb1
  clear hb1
  refine hK.out _ _ (hs1) (fun hHeld => ?_)
  clear hK K
  refine wpAnyH_take (i := 4) (v := .bool true) rfl (by kernel_rfl) (by kernel_rfl) (by kernel_rfl) (fun _ _ _ h => h) (Or.inl ⟨by rfl, fun w1 hSw => by clear hHeld; obtain ⟨c0, c1, c2, c3⟩ := box_cells hSw; go_simp⟩) hHeld ?_
  try simp only [Act.put]
  refine wpAnyH_take (i := 5) (v := .bool true) rfl (by kernel_rfl) (by kernel_rfl) (by kernel_rfl) (fun _ _ _ h => h) (Or.inl ⟨by rfl, fun w1 hSw => by clear hHeld; obtain ⟨c0, c1, c2, c3⟩ := box_cells hSw; go_simp⟩) hHeld ?_
  try simp only [Act.put]
  refine wpAnyH_take (i := 6) (v := undef) rfl (by kernel_rfl) (by kernel_rfl) (by kernel_rfl) (fun _ _ _ h => h) (Or.inr ⟨by kernel_rfl, rfl⟩) hHeld ?_
  try simp only [Act.put]
  refine wpAnyH_take (i := 7) (v := undef) rfl (by kernel_rfl) (by kernel_rfl) (by kernel_rfl) (fun _ _ _ h => h) (Or.inr ⟨by kernel_rfl, rfl⟩) hHeld ?_
  try simp only [Act.put]
  refine wpAnyH_take (i := 8) (v := undef) rfl (by kernel_rfl) (by kernel_rfl) (by kernel_rfl) (fun _ _ _ h => h) (Or.inr ⟨by kernel_rfl, rfl⟩) hHeld ?_
  try simp only [Act.put]
  refine wpAnyH_take (i := 9) (v := undef) rfl (by kernel_rfl) (by kernel_rfl) (by kernel_rfl) (fun _ _ _ h => h) (Or.inr ⟨by kernel_rfl, rfl⟩) hHeld ?_
  try simp only [Act.put]
  refine wpAnyH_take (i := 10) (v := .bool true) rfl (by kernel_rfl) (by kernel_rfl) (by kernel_rfl) (fun _ _ _ h => h) (Or.inl ⟨by rfl, fun w1 hSw => by clear hHeld; obtain ⟨c0, c1, c2, c3⟩ := box_cells hSw; go_simp⟩) hHeld ?_
  try simp only [Act.put]
  refine wpAnyH_take (i := 11) (v := .bool true) rfl (by kernel_rfl) (by kernel_rfl) (by kernel_rfl) (fun _ _ _ h => h) (Or.inl ⟨by rfl, fun w1 hSw => by clear hHeld; obtain ⟨c0, c1, c2, c3⟩ := box_cells hSw; go_simp⟩) hHeld ?_
  try simp only [Act.put]
  refine wpAnyH_take (i := 12) (v := undef) rfl (by kernel_rfl) (by kernel_rfl) (by kernel_rfl) (fun _ _ _ h => h) (Or.inr ⟨by kernel_rfl, rfl⟩) hHeld ?_
  try simp only [Act.put]
  refine wpAnyH_take (i := 13) (v := undef) rfl (by kernel_rfl) (by kernel_rfl) (by kernel_rfl) (fun _ _ _ h => h) (Or.inr ⟨by kernel_rfl, rfl⟩) hHeld ?_
  try simp only [Act.put]
  refine wpAnyH_take (i := 14) (v := undef) rfl (by kernel_rfl) (by kernel_rfl) (by kernel_rfl) (fun _ _ _ h => h) (Or.inr ⟨by kernel_rfl, rfl⟩) hHeld ?_
  try simp only [Act.put]
  refine wpAnyH_take (i := 15) (v := undef) rfl (by kernel_rfl) (by kernel_rfl) (by kernel_rfl) (fun _ _ _ h => h) (Or.inr ⟨by kernel_rfl, rfl⟩) hHeld ?_
  try simp only [Act.put]
  refine wpAnyH_ready (rs := [16]) (by kernel_rfl) (by simp) ?_
  refine AllReadyH.cons rfl (fun K hK => ?_) AllReadyH.nil
  go_simp
  have HB3 := HB2
  refine hK.out _ _ (hHeld) (fun hHeld => ?_)
  clear hK K
  refine wpAnyH_done (by kernel_rfl) ?_ _
  clear hHeld
  have HZd := hide (zbox HZ.out HB3.out)
  obtain ⟨z0, z1, z2, z3, z4, z5, zz⟩ := log_cells HZd.out
  have HBe : Hid (Below w.heap.size w _) := hide ((below_alloc w _).trans (HB3.out.mono (by simp)))
  clear HZd
  go_wp2_with fail
  exact bodyPost_ret (v := .tuple #[.agg zeroLog, .bool false]) (by simp [results, Try.results43, go_sem, z0, z1, z2, z3, z4, z5, zeroLog]) rfl ⟨((((((HBe.out.setCell (Nat.le_refl _) _).setCell (Nat.le_refl _) _).setCell (Nat.le_refl _) _).setCell (Nat.le_refl _) _).setCell (Nat.le_refl _) _).setCell (Nat.le_refl _) _), by rw [HN.out]⟩
end Go.Proofs.Yteiickpokabmoab
end

section
namespace Go.Proofs.Yteiickpokabmoab
open Go.RowKit Go.Shelf
open Wl (Hd WS Log)

set_option maxHeartbeats 1000000 in
set_option maxRecDepth 8000 in
theorem logOf_B {base : Nat} {w : World} {b : Nat} {F : Nat → Prop} {d : D.DS} (h : D.Dk base w b F d) (hd : d.dead = false) (hfit : Wl.Fits d.S.length) (k : Nat) (hk : k < 2) (hm : Wl.MayBe (Wl.parse (d.S.getD k ByteArray.empty)) (Wl.hb d.S.length)) (hsec : ¬ (Wl.parse (d.S.getD k ByteArray.empty)).num % 2 = k) :
    Calls Try.prog 43 #[.pointer (some ⟨b, 0, none⟩), .int .i64 (k : Int)] w (LPost w (Wl.logOf d.S k)) := by
  have hlen : 4 ≤ d.S.length := by obtain ⟨h1, _, h2⟩ := hfit; omega
  have hrd : d.read (k : Int) = (d.S.getD k ByteArray.empty, 0) := by unfold D.DS.read; rw [if_neg (by simp [hd]), if_neg (by omega)]; rfl
  have hs8 : (d.S.getD k ByteArray.empty).size = 128 := by
    rw [List.getD_eq_getElem?_getD, List.getElem?_eq_getElem (by omega)]; exact h.ok.s128.get _
  have HRd := hide (D.read_any (h.alloc (.cells zeroLog 63)) (k : Int))
  rw [hrd] at HRd
  have HD := hide h
  have HHb : Hid (∀ W : World, Below (w.alloc (.cells zeroLog 63)).heap.size (w.alloc (.cells zeroLog 63)) W → Calls Try.prog 26 #[.pointer (some ⟨b, 0, none⟩)] W fun e w' => e = .returned (.int .i64 (Wl.hb d.S.length : Int)) ∧ w' = W) := hide fun W hW => halfBytes_any ((HD.out.alloc _).below hW)
  have HNo := hide (logOf_not (S := d.S) (k := k))
  have HYe := hide (logOf_yes (S := d.S) (k := k))
  have HFr : Hid (Wl.Front d.S k (Wl.parse (d.S.getD k ByteArray.empty)) ↔ Wl.MayBe (Wl.parse (d.S.getD k ByteArray.empty)) (Wl.hb d.S.length) ∧ (Wl.parse (d.S.getD k ByteArray.empty)).num % 2 = k ∧ Wl.headB (Wl.parse (d.S.getD k ByteArray.empty)) = d.S.getD k ByteArray.empty) := hide Iff.rfl
  obtain ⟨X, hX⟩ : ∃ X, Wl.logOf d.S k = X := ⟨_, rfl⟩
  rw [hX] at HNo HYe ⊢
  clear h hX hrd
  have HPa := hide (fun W => parseHead_any (d.S.getD k ByteArray.empty) hs8 W)
  have HLt := hide (parse_lt (d.S.getD k ByteArray.empty))
  have HU := hide hfit
  generalize d.S.getD k ByteArray.empty = s at *
  have hlt := HLt.out
  have HMb := hide (fun W => mayBe_any (Wl.parse s) hlt.2.2.1 hlt.2.2.2 (Wl.hb d.S.length) W)
  have HBy := hide (fun W => bytes_any (Wl.parse s) hlt.1 hlt.2.1 hlt.2.2.1 hlt.2.2.2 W)
  have HUs := hide (fun W => used_any (Wl.parse s) (Nat.le_of_lt hlt.2.2.1) (Nat.le_of_lt hlt.2.2.2) W)
  generalize Wl.parse s = H at *
  obtain ⟨num, half, sn, lg⟩ := H
  have HZ : Hid ((w.alloc (.cells zeroLog 63)).heap[w.heap.size]? = some (.cells #[.int .u64 0, .int .u8 0, .int .i64 0, .int .i64 0, .string ⟨#[]⟩, .slice none 0 0] 63 (0, 0))) := hide (heap_alloc_new w _)
  clear hlt
  simp only [hdC] at *
  go_enter Try.func43, Try.ntmps43
  go_wp2_with fail
  refine HRd.out.mono ?_
  rintro e w' ⟨rfl, rfl⟩
  go_wp2_with fail
  refine (HPa.out _).mono ?_
  rintro e w1 ⟨rfl, hb1⟩
  have HB0 : Hid (Below (w.alloc (.cells zeroLog 63)).heap.size (w.alloc (.cells zeroLog 63)) (w1.alloc (.cells #[.int .u64 (num : Int), .int .u8 (half : Int), .int .i64 (sn : Int), .int .i64 (lg : Int)] 54)).drew) := hide ((hb1.alloc hb1.size _).trans ⟨rfl, rfl, rfl, Nat.le_refl _, fun _ _ => rfl⟩)
  obtain ⟨Y, hY⟩ : ∃ Y, w1.heap.size = Y := ⟨_, rfl⟩
  have hst : (w1.alloc (.cells #[.int .u64 (num : Int), .int .u8 (half : Int), .int .i64 (sn : Int), .int .i64 (lg : Int)] 54)).heap[Y]? = some (.cells #[.int .u64 (num : Int), .int .u8 (half : Int), .int .i64 (sn : Int), .int .i64 (lg : Int)] 54 (0, 0)) := by rw [← hY]; exact heap_alloc_new w1 _
  clear hb1 HRd HPa
  rw [decide_eq_true hm] at HMb
  have HN : Hid (X = none) := hide (HNo.out fun h => hsec (HFr.out.mp h).2.1)
  have hne : (((num % 2 : Nat) : Int) != (k : Int)) = true := by simp; omega
  have hne2 : ((num : Int) % 2 != (k : Int)) = true := by simp; omega
  clear hm HNo HYe HFr hsec
  go_wp2_with fail
  refine wp_region_held_drew (S := fun w' => w'.heap[Y]? = some (.cells #[.int .u64 (num : Int), .int .u8 (half : Int), .int .i64 (sn : Int), .int .i64 (lg : Int)] 54 (0, 0))) (by kernel_rfl) (hst) (fun hHeld => ?_)
  refine wpAnyH_take (i := 0) (v := .agg #[.int .u64 (num : Int), .int .u8 (half : Int), .int .i64 (sn : Int), .int .i64 (lg : Int)]) rfl (by kernel_rfl) (by kernel_rfl) (by kernel_rfl) (fun _ _ _ h => h) (Or.inl ⟨by rfl, fun w1 hSw => by clear hHeld; obtain ⟨c0, c1, c2, c3⟩ := box_cells hSw; go_simp⟩) hHeld ?_
  simp only [Act.put, List.setIfInBounds_toArray]
  refine wpAnyH_take (i := 1) (v := .pointer (some ⟨b, 0, none⟩)) rfl (by kernel_rfl) (by kernel_rfl) (by kernel_rfl) (fun _ _ _ h => h) (Or.inl ⟨by rfl, fun w1 hSw => by clear hHeld; obtain ⟨c0, c1, c2, c3⟩ := box_cells hSw; go_simp⟩) hHeld ?_
  try simp only [Act.put]
  refine wpAnyH_ready (rs := [2]) (by kernel_rfl) (by simp) ?_
  refine AllReadyH.cons rfl (fun K hK => ?_) AllReadyH.nil
  go_simp
  refine (HHb.out _ HB0.out).mono ?_
  rintro e w0a ⟨rfl, rfl⟩
  have HB1 := HB0
  refine hK.out _ _ (hHeld) (fun hHeld => ?_)
  clear hK K
  refine wpAnyH_ready (rs := [3]) (by kernel_rfl) (by simp) ?_
  refine AllReadyH.cons rfl (fun K hK => ?_) AllReadyH.nil
  go_simp
  refine (HMb.out _).mono ?_
  rintro e w1a ⟨rfl, hb1⟩
  have HB2 := hide (HB1.out.trans (hb1.mono HB1.out.size))
  have hs1 := box_bl hHeld hb1
  clear hb1
  refine hK.out _ _ (hs1) (fun hHeld => ?_)
  clear hK K
  refine wpAnyH_take (i := 4) (v := .bool false) rfl (by kernel_rfl) (by kernel_rfl) (by kernel_rfl) (fun _ _ _ h => h) (Or.inl ⟨by rfl, fun w1 hSw => by clear hHeld; obtain ⟨c0, c1, c2, c3⟩ := box_cells hSw; go_simp⟩) hHeld ?_
  try simp only [Act.put]
  refine wpAnyH_take (i := 5) (v := .bool false) rfl (by kernel_rfl) (by kernel_rfl) (by kernel_rfl) (fun _ _ _ h => h) (Or.inl ⟨by rfl, fun w1 hSw => by clear hHeld; obtain ⟨c0, c1, c2, c3⟩ := box_cells hSw; go_simp⟩) hHeld ?_
  try simp only [Act.put]
  refine wpAnyH_take (i := 6) (v := .agg #[.int .u64 (num : Int), .int .u8 (half : Int), .int .i64 (sn : Int), .int .i64 (lg : Int)]) rfl (by kernel_rfl) (by kernel_rfl) (by kernel_rfl) (fun _ _ _ h => h) (Or.inl ⟨by rfl, fun w1 hSw => by clear hHeld; obtain ⟨c0, c1, c2, c3⟩ := box_cells hSw; go_simp⟩) hHeld ?_
  try simp only [Act.put]
  refine wpAnyH_take (i := 8) (v := .int .i64 (k : Int)) rfl (by kernel_rfl) (by kernel_rfl) (by kernel_rfl) (fun _ _ _ h => h) (Or.inl ⟨by rfl, fun w1 hSw => by clear hHeld; obtain ⟨c0, c1, c2, c3⟩ := box_cells hSw; go_simp⟩) hHeld ?_
  try simp only [Act.put]
  refine wpAnyH_ready (rs := [7]) (by kernel_rfl) (by simp) ?_
  refine AllReadyH.cons rfl (fun K hK => ?_) AllReadyH.nil
  go_simp
  refine (sector_any ⟨num, half, sn, lg⟩ _).mono ?_
  rintro e w2a ⟨rfl, rfl⟩
  have HB3 := hide (HB2.out.alloc HB2.out.size (.cells (hdC ⟨num, half, sn, lg⟩) 54))
  refine hK.out _ _ (box_al hHeld _) (fun hHeld => ?_)
  clear hK K
  refine wpAnyH_ready (rs := [9]) (by kernel_rfl) (by simp) ?_
  refine AllReadyH.cons rfl (fun K hK => ?_) AllReadyH.nil
  go_simp
  have HB4 := HB3
  refine hK.out _ _ (hHeld) (fun hHeld => ?_)
  clear hK K
  refine wpAnyH_take (i := 10) (v := .bool true) rfl (by kernel_rfl) (by kernel_rfl) (by kernel_rfl) (fun _ _ _ h => h) (Or.inl ⟨by rfl, fun w1 hSw => by clear hHeld; obtain ⟨c0, c1, c2, c3⟩ := box_cells hSw; go_simp⟩) hHeld ?_
  try simp only [Act.put]
  refine wpAnyH_take (i := 11) (v := .bool true) rfl (by kernel_rfl) (by kernel_rfl) (by kernel_rfl) (fun _ _ _ h => h) (Or.inl ⟨by rfl, fun w1 hSw => by clear hHeld; obtain ⟨c0, c1, c2, c3⟩ := box_cells hSw; go_simp⟩) hHeld ?_
  try simp only [Act.put]
  refine wpAnyH_take (i := 12) (v := undef) rfl (by kernel_rfl) (by kernel_rfl) (by kernel_rfl) (fun _ _ _ h => h) (Or.inr ⟨by kernel_rfl, rfl⟩) hHeld ?_
  try simp only [Act.put]
  refine wpAnyH_take (i := 13) (v := undef) rfl (by kernel_rfl) (by kernel_rfl) (by kernel_rfl) (fun _ _ _ h => h) (Or.inr ⟨by kernel_rfl, rfl⟩) hHeld ?_
  try simp only [Act.put]
  refine wpAnyH_take (i := 14) (v := undef) rfl (by kernel_rfl) (by kernel_rfl) (by kernel_rfl) (fun _ _ _ h => h) (Or.inr ⟨by kernel_rfl, rfl⟩) hHeld ?_
  try simp only [Act.put]
  refine wpAnyH_take (i := 15) (v := undef) rfl (by kernel_rfl) (by kernel_rfl) (by kernel_rfl) (fun _ _ _ h => h) (Or.inr ⟨by kernel_rfl, rfl⟩) hHeld ?_
  try simp only [Act.put]
  refine wpAnyH_ready (rs := [16]) (by kernel_rfl) (by simp) ?_
  refine AllReadyH.cons rfl (fun K hK => ?_) AllReadyH.nil
  go_simp
  have HB5 := HB4
  refine hK.out _ _ (hHeld) (fun hHeld => ?_)
  clear hK K
  refine wpAnyH_done (by kernel_rfl) ?_ _
  clear hHeld
  have HZd := hide (zbox HZ.out HB5.out)
  obtain ⟨z0, z1, z2, z3, z4, z5, zz⟩ := log_cells HZd.out
  have HBe : Hid (Below w.heap.size w _) := hide ((below_alloc w _).trans (HB5.out.mono (by simp)))
  clear HZd
  go_wp2_with fail
  exact bodyPost_ret (v := .tuple #[.agg zeroLog, .bool false]) (by simp [results, Try.results43, go_sem, z0, z1, z2, z3, z4, z5, zeroLog]) rfl ⟨((((((HBe.out.setCell (Nat.le_refl _) _).setCell (Nat.le_refl _) _).setCell (Nat.le_refl _) _).setCell (Nat.le_refl _) _).setCell (Nat.le_refl _) _).setCell (Nat.le_refl _) _), by rw [HN.out]⟩
end Go.Proofs.Yteiickpokabmoab
end

section
namespace Go.Proofs.Yteiickpokabmoab
open Go.RowKit Go.Shelf
open Wl (Hd WS Log)

set_option maxHeartbeats 1000000 in
set_option maxRecDepth 8000 in
theorem logOf_C {base : Nat} {w : World} {b : Nat} {F : Nat → Prop} {d : D.DS} (h : D.Dk base w b F d) (hd : d.dead = false) (hfit : Wl.Fits d.S.length) (k : Nat) (hk : k < 2) (hm : Wl.MayBe (Wl.parse (d.S.getD k ByteArray.empty)) (Wl.hb d.S.length)) (hsec : (Wl.parse (d.S.getD k ByteArray.empty)).num % 2 = k) (hby : ¬ Wl.headB (Wl.parse (d.S.getD k ByteArray.empty)) = d.S.getD k ByteArray.empty) :
    Calls Try.prog 43 #[.pointer (some ⟨b, 0, none⟩), .int .i64 (k : Int)] w (LPost w (Wl.logOf d.S k)) := by
  have hlen : 4 ≤ d.S.length := by obtain ⟨h1, _, h2⟩ := hfit; omega
  have hrd : d.read (k : Int) = (d.S.getD k ByteArray.empty, 0) := by unfold D.DS.read; rw [if_neg (by simp [hd]), if_neg (by omega)]; rfl
  have hs8 : (d.S.getD k ByteArray.empty).size = 128 := by
    rw [List.getD_eq_getElem?_getD, List.getElem?_eq_getElem (by omega)]; exact h.ok.s128.get _
  have HRd := hide (D.read_any (h.alloc (.cells zeroLog 63)) (k : Int))
  rw [hrd] at HRd
  have HD := hide h
  have HHb : Hid (∀ W : World, Below (w.alloc (.cells zeroLog 63)).heap.size (w.alloc (.cells zeroLog 63)) W → Calls Try.prog 26 #[.pointer (some ⟨b, 0, none⟩)] W fun e w' => e = .returned (.int .i64 (Wl.hb d.S.length : Int)) ∧ w' = W) := hide fun W hW => halfBytes_any ((HD.out.alloc _).below hW)
  have HNo := hide (logOf_not (S := d.S) (k := k))
  have HYe := hide (logOf_yes (S := d.S) (k := k))
  have HFr : Hid (Wl.Front d.S k (Wl.parse (d.S.getD k ByteArray.empty)) ↔ Wl.MayBe (Wl.parse (d.S.getD k ByteArray.empty)) (Wl.hb d.S.length) ∧ (Wl.parse (d.S.getD k ByteArray.empty)).num % 2 = k ∧ Wl.headB (Wl.parse (d.S.getD k ByteArray.empty)) = d.S.getD k ByteArray.empty) := hide Iff.rfl
  obtain ⟨X, hX⟩ : ∃ X, Wl.logOf d.S k = X := ⟨_, rfl⟩
  rw [hX] at HNo HYe ⊢
  clear h hX hrd
  have HPa := hide (fun W => parseHead_any (d.S.getD k ByteArray.empty) hs8 W)
  have HLt := hide (parse_lt (d.S.getD k ByteArray.empty))
  have HU := hide hfit
  generalize d.S.getD k ByteArray.empty = s at *
  have hlt := HLt.out
  have HMb := hide (fun W => mayBe_any (Wl.parse s) hlt.2.2.1 hlt.2.2.2 (Wl.hb d.S.length) W)
  have HBy := hide (fun W => bytes_any (Wl.parse s) hlt.1 hlt.2.1 hlt.2.2.1 hlt.2.2.2 W)
  have HUs := hide (fun W => used_any (Wl.parse s) (Nat.le_of_lt hlt.2.2.1) (Nat.le_of_lt hlt.2.2.2) W)
  generalize Wl.parse s = H at *
  obtain ⟨num, half, sn, lg⟩ := H
  have HZ : Hid ((w.alloc (.cells zeroLog 63)).heap[w.heap.size]? = some (.cells #[.int .u64 0, .int .u8 0, .int .i64 0, .int .i64 0, .string ⟨#[]⟩, .slice none 0 0] 63 (0, 0))) := hide (heap_alloc_new w _)
  clear hlt
  simp only [hdC] at *
  go_enter Try.func43, Try.ntmps43
  go_wp2_with fail
  refine HRd.out.mono ?_
  rintro e w' ⟨rfl, rfl⟩
  go_wp2_with fail
  refine (HPa.out _).mono ?_
  rintro e w1 ⟨rfl, hb1⟩
  have HB0 : Hid (Below (w.alloc (.cells zeroLog 63)).heap.size (w.alloc (.cells zeroLog 63)) (w1.alloc (.cells #[.int .u64 (num : Int), .int .u8 (half : Int), .int .i64 (sn : Int), .int .i64 (lg : Int)] 54)).drew) := hide ((hb1.alloc hb1.size _).trans ⟨rfl, rfl, rfl, Nat.le_refl _, fun _ _ => rfl⟩)
  obtain ⟨Y, hY⟩ : ∃ Y, w1.heap.size = Y := ⟨_, rfl⟩
  have hst : (w1.alloc (.cells #[.int .u64 (num : Int), .int .u8 (half : Int), .int .i64 (sn : Int), .int .i64 (lg : Int)] 54)).heap[Y]? = some (.cells #[.int .u64 (num : Int), .int .u8 (half : Int), .int .i64 (sn : Int), .int .i64 (lg : Int)] 54 (0, 0)) := by rw [← hY]; exact heap_alloc_new w1 _
  clear hb1 HRd HPa
  rw [decide_eq_true hm] at HMb
  have hne : (((num % 2 : Nat) : Int) != (k : Int)) = false := by simp; omega
  have hne2 : ((num : Int) % 2 != (k : Int)) = false := by simp; omega
  have HN : Hid (X = none) := hide (HNo.out fun h => hby (HFr.out.mp h).2.2)
  have hbn : ((Wl.headB ⟨num, half, sn, lg⟩).toList == s.toList) = false := beq_eq_false_iff_ne.2 fun h => hby (toList_inj h)
  generalize Wl.headB ⟨num, half, sn, lg⟩ = HBB at *
  clear hm HNo HYe HFr hby hsec
  go_wp2_with fail
  refine wp_region_held_drew (S := fun w' => w'.heap[Y]? = some (.cells #[.int .u64 (num : Int), .int .u8 (half : Int), .int .i64 (sn : Int), .int .i64 (lg : Int)] 54 (0, 0))) (by kernel_rfl) (hst) (fun hHeld => ?_)
  refine wpAnyH_take (i := 0) (v := .agg #[.int .u64 (num : Int), .int .u8 (half : Int), .int .i64 (sn : Int), .int .i64 (lg : Int)]) rfl (by kernel_rfl) (by kernel_rfl) (by kernel_rfl) (fun _ _ _ h => h) (Or.inl ⟨by rfl, fun w1 hSw => by clear hHeld; obtain ⟨c0, c1, c2, c3⟩ := box_cells hSw; go_simp⟩) hHeld ?_
  simp only [Act.put, List.setIfInBounds_toArray]
  refine wpAnyH_take (i := 1) (v := .pointer (some ⟨b, 0, none⟩)) rfl (by kernel_rfl) (by kernel_rfl) (by kernel_rfl) (fun _ _ _ h => h) (Or.inl ⟨by rfl, fun w1 hSw => by clear hHeld; obtain ⟨c0, c1, c2, c3⟩ := box_cells hSw; go_simp⟩) hHeld ?_
  try simp only [Act.put]
  refine wpAnyH_ready (rs := [2]) (by kernel_rfl) (by simp) ?_
  refine AllReadyH.cons rfl (fun K hK => ?_) AllReadyH.nil
  go_simp
  refine (HHb.out _ HB0.out).mono ?_
  rintro e w0a ⟨rfl, rfl⟩
  have HB1 := HB0
  refine hK.out _ _ (hHeld) (fun hHeld => ?_)
  clear hK K
  refine wpAnyH_ready (rs := [3]) (by kernel_rfl) (by simp) ?_
  refine AllReadyH.cons rfl (fun K hK => ?_) AllReadyH.nil
  go_simp
  refine (HMb.out _).mono ?_
  rintro e w1a ⟨rfl, hb1⟩
  have HB2 := hide (HB1.out.trans (hb1.mono HB1.out.size))
  have hs1 := box_bl hHeld hb1
  clear hb1
  refine hK.out _ _ (hs1) (fun hHeld => ?_)
  clear hK K
  refine wpAnyH_take (i := 4) (v := .bool false) rfl (by kernel_rfl) (by kernel_rfl) (by kernel_rfl) (fun _ _ _ h => h) (Or.inl ⟨by rfl, fun w1 hSw => by clear hHeld; obtain ⟨c0, c1, c2, c3⟩ := box_cells hSw; go_simp⟩) hHeld ?_
  try simp only [Act.put]
  refine wpAnyH_take (i := 5) (v := .bool false) rfl (by kernel_rfl) (by kernel_rfl) (by kernel_rfl) (fun _ _ _ h => h) (Or.inl ⟨by rfl, fun w1 hSw => by clear hHeld; obtain ⟨c0, c1, c2, c3⟩ := box_cells hSw; go_simp⟩) hHeld ?_
  try simp only [Act.put]
  refine wpAnyH_take (i := 6) (v := .agg #[.int .u64 (num : Int), .int .u8 (half : Int), .int .i64 (sn : Int), .int .i64 (lg : Int)]) rfl (by kernel_rfl) (by kernel_rfl) (by kernel_rfl) (fun _ _ _ h => h) (Or.inl ⟨by rfl, fun w1 hSw => by clear hHeld; obtain ⟨c0, c1, c2, c3⟩ := box_cells hSw; go_simp⟩) hHeld ?_
  try simp only [Act.put]
  refine wpAnyH_take (i := 8) (v := .int .i64 (k : Int)) rfl (by kernel_rfl) (by kernel_rfl) (by kernel_rfl) (fun _ _ _ h => h) (Or.inl ⟨by rfl, fun w1 hSw => by clear hHeld; obtain ⟨c0, c1, c2, c3⟩ := box_cells hSw; go_simp⟩) hHeld ?_
  try simp only [Act.put]
  refine wpAnyH_ready (rs := [7]) (by kernel_rfl) (by simp) ?_
  refine AllReadyH.cons rfl (fun K hK => ?_) AllReadyH.nil
  go_simp
  refine (sector_any ⟨num, half, sn, lg⟩ _).mono ?_
  rintro e w2a ⟨rfl, rfl⟩
  have HB3 := hide (HB2.out.alloc HB2.out.size (.cells (hdC ⟨num, half, sn, lg⟩) 54))
  refine hK.out _ _ (box_al hHeld _) (fun hHeld => ?_)
  clear hK K
  refine wpAnyH_ready (rs := [9]) (by kernel_rfl) (by simp) ?_
  refine AllReadyH.cons rfl (fun K hK => ?_) AllReadyH.nil
  go_simp
  have HB4 := HB3
  refine hK.out _ _ (hHeld) (fun hHeld => ?_)
  clear hK K
  refine wpAnyH_take (i := 10) (v := .bool false) rfl (by kernel_rfl) (by kernel_rfl) (by kernel_rfl) (fun _ _ _ h => h) (Or.inl ⟨by rfl, fun w1 hSw => by clear hHeld; obtain ⟨c0, c1, c2, c3⟩ := box_cells hSw; go_simp⟩) hHeld ?_
  try simp only [Act.put]
  refine wpAnyH_take (i := 11) (v := .bool false) rfl (by kernel_rfl) (by kernel_rfl) (by kernel_rfl) (fun _ _ _ h => h) (Or.inl ⟨by rfl, fun w1 hSw => by clear hHeld; obtain ⟨c0, c1, c2, c3⟩ := box_cells hSw; go_simp⟩) hHeld ?_
  try simp only [Act.put]
  refine wpAnyH_take (i := 12) (v := .agg #[.int .u64 (num : Int), .int .u8 (half : Int), .int .i64 (sn : Int), .int .i64 (lg : Int)]) rfl (by kernel_rfl) (by kernel_rfl) (by kernel_rfl) (fun _ _ _ h => h) (Or.inl ⟨by rfl, fun w1 hSw => by clear hHeld; obtain ⟨c0, c1, c2, c3⟩ := box_cells hSw; go_simp⟩) hHeld ?_
  try simp only [Act.put]
  refine wpAnyH_take (i := 14) (v := .string s) rfl (by kernel_rfl) (by kernel_rfl) (by kernel_rfl) (fun _ _ _ h => h) (Or.inl ⟨by rfl, fun w1 hSw => by clear hHeld; obtain ⟨c0, c1, c2, c3⟩ := box_cells hSw; go_simp⟩) hHeld ?_
  try simp only [Act.put]
  refine wpAnyH_ready (rs := [13]) (by kernel_rfl) (by simp) ?_
  refine AllReadyH.cons rfl (fun K hK => ?_) AllReadyH.nil
  go_simp
  refine (HBy.out _).mono ?_
  rintro e w4a ⟨rfl, hb4⟩
  have HB5 := hide (HB4.out.trans (hb4.mono HB4.out.size))
  have hs4 := box_bl hHeld hb4
  clear hb4
  refine hK.out _ _ (hs4) (fun hHeld => ?_)
  clear hK K
  refine wpAnyH_ready (rs := [15]) (by kernel_rfl) (by simp) ?_
  refine AllReadyH.cons rfl (fun K hK => ?_) AllReadyH.nil
  go_simp
  have HB6 := HB5
  refine hK.out _ _ (hHeld) (fun hHeld => ?_)
  clear hK K
  refine wpAnyH_ready (rs := [16]) (by kernel_rfl) (by simp) ?_
  refine AllReadyH.cons rfl (fun K hK => ?_) AllReadyH.nil
  go_simp
  have HB7 := HB6
  refine hK.out _ _ (hHeld) (fun hHeld => ?_)
  clear hK K
  refine wpAnyH_done (by kernel_rfl) ?_ _
  clear hHeld
  have HZd := hide (zbox HZ.out HB7.out)
  obtain ⟨z0, z1, z2, z3, z4, z5, zz⟩ := log_cells HZd.out
  have HBe : Hid (Below w.heap.size w _) := hide ((below_alloc w _).trans (HB7.out.mono (by simp)))
  clear HZd
  go_wp2_with fail
  exact bodyPost_ret (v := .tuple #[.agg zeroLog, .bool false]) (by simp [results, Try.results43, go_sem, z0, z1, z2, z3, z4, z5, zeroLog]) rfl ⟨((((((HBe.out.setCell (Nat.le_refl _) _).setCell (Nat.le_refl _) _).setCell (Nat.le_refl _) _).setCell (Nat.le_refl _) _).setCell (Nat.le_refl _) _).setCell (Nat.le_refl _) _), by rw [HN.out]⟩
end Go.Proofs.Yteiickpokabmoab
end
