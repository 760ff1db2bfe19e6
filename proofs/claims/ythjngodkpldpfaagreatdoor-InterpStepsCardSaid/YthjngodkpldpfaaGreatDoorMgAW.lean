import Derived.Test.YthjngodkpldpfaaGreatDoorMgAV

section
namespace Go.Proofs.YthjngodkpldpfaaGreatDoor
open Go.RowKit Go.Shelf

namespace Im
/-- what a program tells -/
def chk (l : List (Nat × ByteArray)) : List ByteArray := (l.filter fun a => a.1 == 1).map (·.2)
def pcs (l : List (Nat × ByteArray)) : List ByteArray := (l.filter fun a => !(a.1 == 1)).map (·.2)
def end_ (xs : List In) (fuel : Nat) : Mc × List (Nat × ByteArray) := itr xs fuel m0 fuel
def strs (l : List ByteArray) : List Value := l.map Value.string
end Im
/-- what came back of Whole -/
structure Out (w : World) (base : Nat) (o : Value) (I : Mc × List (Nat × ByteArray)) : Prop where
  form : ∃ cv pv, o = .agg #[.int .i64 (Im.resC I.1 : Int), .int .u64 (Im.resB I.1 : Int), cv, pv, .int .i64 (I.1.dn : Int)] ∧ w.ownsRow base 9 1 cv (Im.chk I.2).length (Im.strs (Im.chk I.2)) ∧ w.ownsRow base 9 1 pv (Im.pcs I.2).length (Im.strs (Im.pcs I.2))
/-- the library's tables -/
structure Tbs (w : World) : Prop where
  t64 : Tab64 w
  t10 : Tab10 w
theorem Tbs.below {a b : World} (h : Tbs a) (k : Below a.heap.size a b) : Tbs b := ⟨fun j hj => (k.cell (p := ⟨2, j, none⟩) (World.block_lt_of_cell? _ _ (h.t64 j hj))).trans (h.t64 j hj), tab10_below h.t10 k⟩
theorem Tbs.lt64 {a : World} (h : Tbs a) : 2 < a.heap.size := World.block_lt_of_cell? _ _ (h.t64 0 (by decide))
theorem Tbs.lt10 {a : World} (h : Tbs a) : 3 < a.heap.size := by
  have h := h.t10
  unfold Tab10 Lib.TabIs World.var? at h
  simp only [glob10, Option.bind_some] at h
  rcases Nat.lt_or_ge 3 a.heap.size with h' | h'
  · exact h'
  · rw [Array.getElem?_eq_none h'] at h; simp at h
theorem Tbs.env {w w' : World} {B : Nat} (h : Tbs w) (k : Below w.heap.size w w') (hB : w.heap.size ≤ B) : Env w' B := ⟨(h.below k).t64, (h.below k).t10, by have := h.lt64; omega, by have := h.lt10; omega⟩
theorem acs_at (l : List (Nat × ByteArray)) (i : Nat) (hi : i < l.length) : (Im.acs l)[i * 2]? = some (.int .i64 ((l[i]!).1 : Int)) ∧ (Im.acs l)[i * 2 + 1]? = some (.string (l[i]!).2) := by
  have h0 := flat_get (fun a : Nat × ByteArray => [Value.int .i64 (a.1 : Int), .string a.2]) 2 (fun _ => rfl) l i 0 hi (by decide)
  have h1 := flat_get (fun a : Nat × ByteArray => [Value.int .i64 (a.1 : Int), .string a.2]) 2 (fun _ => rfl) l i 1 hi (by decide)
  exact ⟨h0, h1⟩
theorem chk_app (l : List (Nat × ByteArray)) (a : Nat × ByteArray) : Im.chk (l ++ [a]) = if a.1 = 1 then Im.chk l ++ [a.2] else Im.chk l := by
  unfold Im.chk
  rw [List.filter_append, List.map_append]
  by_cases h : a.1 = 1
  · rw [if_pos h]; simp [h]
  · rw [if_neg h]; simp [h]
theorem pcs_app (l : List (Nat × ByteArray)) (a : Nat × ByteArray) : Im.pcs (l ++ [a]) = if a.1 = 1 then Im.pcs l else Im.pcs l ++ [a.2] := by
  unfold Im.pcs
  rw [List.filter_append, List.map_append]
  by_cases h : a.1 = 1
  · rw [if_pos h]; simp [h]
  · rw [if_neg h]; simp [h]
theorem strs_app (l : List ByteArray) (a : ByteArray) : Im.strs (l ++ [a]) = Im.strs l ++ [.string a] := by unfold Im.strs; simp
theorem chk_len (l : List (Nat × ByteArray)) : (Im.chk l).length ≤ l.length := by unfold Im.chk; rw [List.length_map]; exact List.length_filter_le _ _
theorem pcs_len (l : List (Nat × ByteArray)) : (Im.pcs l).length ≤ l.length := by unfold Im.pcs; rw [List.length_map]; exact List.length_filter_le _ _
theorem take_one (l : List (Nat × ByteArray)) (i : Nat) (h : i < l.length) : l.take (i + 1) = l.take i ++ [l[i]!] := by
  rw [List.take_add_one, getElem!_pos l i h, List.getElem?_eq_getElem h]; rfl
/-- the outcome under way -/
def Ob (w : World) (O : Nat) (cv pv : Value) : Prop := w.heap[O]? = some (.cells #[.int .i64 0, .int .u64 0, cv, pv, .int .i64 0] 48 (0, 0))
theorem Ob.cells {w : World} {O : Nat} {cv pv : Value} (h : Ob w O cv pv) : w.cell? ⟨O, 2, none⟩ = some cv ∧ w.cell? ⟨O, 3, none⟩ = some pv ∧ w.cell? ⟨O, 0, none⟩ = some (.int .i64 0) ∧ w.cell? ⟨O, 1, none⟩ = some (.int .u64 0) ∧ w.cell? ⟨O, 4, none⟩ = some (.int .i64 0) ∧ ∀ i, w.frozen? ⟨O, i, none⟩ = false := by
  unfold Ob at h
  exact ⟨by simp [World.cell?, h], by simp [World.cell?, h], by simp [World.cell?, h], by simp [World.cell?, h], by simp [World.cell?, h], fun i => by simp [World.frozen?, h]⟩
theorem Ob.lt {w : World} {O : Nat} {cv pv : Value} (h : Ob w O cv pv) : O < w.heap.size := lt_of_block h
theorem Ob.grown {w w' : World} {O : Nat} {cv pv : Value} (h : Ob w O cv pv) {r : Option Nat} (g : w.grownBy w' r) (hn : some O ≠ r) : Ob w' O cv pv := (g.block O (lt_of_block h) hn).trans h
theorem Ob.set2 {w : World} {O : Nat} {cv pv : Value} (h : Ob w O cv pv) (u : Value) : Ob (w.setCell ⟨O, 2, none⟩ u) O u pv := by
  unfold Ob at *
  have hlt := lt_of_block h
  have h' : w.heap[O] = .cells #[.int .i64 0, .int .u64 0, cv, pv, .int .i64 0] 48 (0, 0) := by simpa [Array.getElem?_eq_getElem hlt] using h
  show (w.heap.modify O _)[O]? = _
  rw [Array.getElem?_eq_getElem (by simpa using hlt), Array.getElem_modify_self, h']
  rfl
theorem Ob.set3 {w : World} {O : Nat} {cv pv : Value} (h : Ob w O cv pv) (u : Value) : Ob (w.setCell ⟨O, 3, none⟩ u) O cv u := by
  unfold Ob at *
  have hlt := lt_of_block h
  have h' : w.heap[O] = .cells #[.int .i64 0, .int .u64 0, cv, pv, .int .i64 0] 48 (0, 0) := by simpa [Array.getElem?_eq_getElem hlt] using h
  show (w.heap.modify O _)[O]? = _
  rw [Array.getElem?_eq_getElem (by simpa using hlt), Array.getElem_modify_self, h']
  rfl
theorem block_set {w : World} {Y T : Nat} {cs : Array Value} (h : w.heap[Y]? = some (.cells cs T (0, 0))) (i : Nat) (u : Value) : (w.setCell ⟨Y, i, none⟩ u).heap[Y]? = some (.cells (cs.setIfInBounds i u) T (0, 0)) := by
  have hlt := lt_of_block h
  have h' : w.heap[Y] = .cells cs T (0, 0) := by simpa [Array.getElem?_eq_getElem hlt] using h
  show (w.heap.modify Y _)[Y]? = _
  rw [Array.getElem?_eq_getElem (by simpa using hlt), Array.getElem_modify_self, h']
  rfl
theorem rown_low {w : World} {base b2 e size n : Nat} {v : Value} {xs : List Value} (h : w.ownsRow base e size v n xs) (hb : b2 ≤ base) : w.ownsRow b2 e size v n xs := by
  refine ⟨h.1, ?_⟩
  rcases h.2 with h1 | ⟨k, cap, cur, rfl, hk, h2⟩
  · exact .inl h1
  · exact .inr ⟨k, cap, cur, rfl, Nat.le_trans hb hk, h2⟩
theorem below_of_grown {a b c : World} {O Y n : Nat} (h : a.grownBy b (some O)) (k : b.grownBy c (some Y)) (hO : n ≤ O) (hY : n ≤ Y) (hn : n ≤ a.heap.size) : Below n a c :=
  ⟨k.os.trans h.os, k.tape.trans h.tape, k.output.trans h.output, Nat.le_trans h.size k.size, fun i hi => (k.block i (Nat.lt_of_lt_of_le hi (Nat.le_trans hn h.size)) (by simp; omega)).trans (h.block i (Nat.lt_of_lt_of_le hi hn) (by simp; omega))⟩
theorem res5 {fn : Func} (h : fn.results = #[.cell 2 48, .tmp 3]) (tmps : Array Value) (w : World) (Y : Nat) (cs : Array Value) (e : Value) (hp : tmps.getD 2 undef = .pointer (some ⟨Y, 0, none⟩)) (he : tmps.getD 3 undef = e)
    (hY : w.heap[Y]? = some (.cells cs 48 (0, 0))) (hs : cs.size = 5) : (results fn tmps).run Tryz.prog w = .ok (.tuple #[.agg cs, e]) w := by
  rw [results_cell_tmp h, hp, he]
  simp [asAddr, run_loadVar_row w Y 48 48 cs (0, 0) _ hY Tryz.underlying48 rfl (by rw [hs]; kernel_rfl)]
theorem five_of {w : World} {B T : Nat} {a b c d e : Value} (h : w.heap[B]? = some (.cells #[a, b, c, d, e] T (0, 0))) :
    w.cell? ⟨B, 0, none⟩ = some a ∧ w.cell? ⟨B, 1, none⟩ = some b ∧ w.cell? ⟨B, 2, none⟩ = some c ∧ w.cell? ⟨B, 3, none⟩ = some d ∧ w.cell? ⟨B, 4, none⟩ = some e ∧ ∀ i, w.frozen? ⟨B, i, none⟩ = false :=
  ⟨by simp [World.cell?, h], by simp [World.cell?, h], by simp [World.cell?, h], by simp [World.cell?, h], by simp [World.cell?, h], fun i => by simp [World.frozen?, h]⟩
/-- the two rows of an outcome: own, and apart -/
structure Rows2 (w : World) (base : Nat) (cv pv : Value) (c p : List ByteArray) : Prop where
  c : w.ownsRow base 9 1 cv c.length (Im.strs c)
  p : w.ownsRow base 9 1 pv p.length (Im.strs p)
  apart : ∀ g, cv.ownBlock = some g → pv.ownBlock ≠ some g
theorem infoStr : (Tryz.prog.info? 9).map (fun i => (i.zero, i.size, i.bytes)) = some (some (.string ⟨#[]⟩), 1, 16) := by kernel_rfl
/-- one text more in a row -/
theorem rows2_add {wr W w7 w8 : World} {base O n g cap H : Nat} {cv pv : Value} {c p : List ByteArray} {t : ByteArray} (h : Rows2 wr base cv pv c p) (hW : wr.grownBy W none) (hH : W.heap.size = H)
    (hown : w7.ownsRow base 9 1 (.slice (some ⟨g, 0, none⟩) n cap) n (Im.strs c ++ [.string t])) (hn : n = c.length + 1) (hgrow : W.grownBy w7 cv.ownBlock) (hat : cv.ownBlock = some g ∨ g = H)
    (hO : O < base) (h8 : w7.grownBy w8 (some O)) : Rows2 w8 base (.slice (some ⟨g, 0, none⟩) n cap) pv (c ++ [t]) p := by
  have hpb : ∀ k, pv.ownBlock = some k → base ≤ k ∧ k < wr.heap.size := fun k e => h.p.lt k e
  have hg : base ≤ g := (hown.lt g rfl).1
  refine ⟨?_, ?_, ?_⟩
  · rw [List.length_append, strs_app]
    subst hn
    exact rown_grown hown h8 (fun k e e2 => by simp only [Value.ownBlock] at e; injection e with e; injection e2 with e2; omega)
  · refine rown_grown (rown_grown (rown_grown h.p hW (fun _ _ => by simp)) hgrow (fun k e e2 => ?_)) h8 (fun k e e2 => by have := hpb k e; injection e2 with e2; omega)
    exact h.apart k e2.symm e
  · intro k e
    simp only [Value.ownBlock] at e
    injection e with e
    subst e
    intro e3
    rcases hat with h1 | h1
    · exact h.apart _ h1 e3
    · have := hpb _ e3; have := hW.size; omega
theorem Rows2.swap {w : World} {base : Nat} {cv pv : Value} {c p : List ByteArray} (h : Rows2 w base cv pv c p) : Rows2 w base pv cv p c := ⟨h.p, h.c, fun g e1 e2 => h.apart g e2 e1⟩
set_option maxRecDepth 20000 in
set_option maxHeartbeats 4000000 in
theorem whole_ok {w : World} {v : Value} {fuel : Nat} {xs : List In} (hx : ∀ x ∈ xs, x.Fits) (h : Cd w v xs) (hc : Pg.checkE fuel xs = (0, 0)) (hp : Pok fuel xs) (hT : Tbs w) :
    Calls Tryz.prog 17 #[.agg #[.int .i64 (fuel : Int), v]] w fun e w' => ∃ o, e = .returned (.tuple #[o, .int .i64 0]) ∧ Out w' w.heap.size o (Im.end_ xs fuel) ∧ Below w.heap.size w w' := by
  have h0 : 0 < xs.length := hp.l1
  have HN := hide (fun w1 (h1 : Cd w1 v xs) => new_ok hx h1 hc h0 hp.l2)
  have HCd := hide h
  have HT := hide hT
  have HP := hide hp
  obtain ⟨p, cap, rfl, -⟩ := h
  have hf1 := hp.f2
  have hl2 := hp.l2
  clear hx hc hT hp
  go_enter Tryz.func17, Tryz.ntmps17
  go_wp2_with fail
  have hW : Below w.heap.size w ((w.alloc (.cells #[.int .i64 (fuel : Int), .slice p xs.length cap] 24)).alloc (.cells #[.int .i64 0, .int .u64 0, .slice none 0 0, .slice none 0 0, .int .i64 0] 48)) := (below_one w _).trans ((below_one _ _).mono (by simp))
  refine (HN.out _ (HCd.out.below hW (Nat.le_refl _))).mono ?_
  rintro e w1 ⟨B, v1, rfl, hmb, hcd, hB, hb1⟩
  have hp : w1.heap[w.heap.size]? = some (.cells #[.int .i64 (fuel : Int), .slice p xs.length cap] 24 (0, 0)) := (hb1.block w.heap.size (by simp; omega)).trans ((heap_alloc_old _ _ (by simp)).trans (heap_alloc_new w _))
  have hr : w1.heap[w.heap.size + 1]? = some (.cells #[.int .i64 0, .int .u64 0, .slice none 0 0, .slice none 0 0, .int .i64 0] 48 (0, 0)) := (hb1.block (w.heap.size + 1) (by simp)).trans (by have q := heap_alloc_new (w.alloc (.cells #[.int .i64 (fuel : Int), .slice p xs.length cap] 24)) (.cells #[.int .i64 0, .int .u64 0, .slice none 0 0, .slice none 0 0, .int .i64 0] 48); rw [World.size_alloc] at q; exact q)
  have p0 : w1.cell? ⟨w.heap.size, 0, none⟩ = some (.int .i64 (fuel : Int)) := by simp [World.cell?, hp]
  have hpl : w.heap.size < w1.heap.size := lt_of_block hp
  have HB1 : Hid (Below w.heap.size w w1) := hW.trans (hb1.mono (by simp; omega))
  have HR := hide hr
  simp only [World.size_alloc] at hB
  have HM1 := hide hmb
  have HC1 := hide hcd
  clear hb1 hmb hcd
  go_wp2_with fail
  refine (run_any (HM1.out.grown (grown_one w1 _ none) (by simp)) (m0_ok xs.length fuel h0 HP.out.f1) HP.out.good (HC1.out.grown (grown_one w1 _ _)) ((HT.out.env HB1.out (by omega)).grown (grown_one w1 _ _)) (by omega) (by omega) (fuel : Int) (by omega)).mono ?_
  rintro e w2 ⟨u, rfl, hm2, ho2, hg2⟩
  rw [Int.toNat_natCast] at hm2 ho2
  rw [World.size_alloc] at ho2
  have hOw : w2.heap[w1.heap.size]? = some (.cells #[.int .i64 0, .int .u64 0, .slice none 0 0, .slice none 0 0, .int .i64 0] 48 (0, 0)) := (hg2.block w1.heap.size (by simp) (by have := HM1.out.lt; simp; omega)).trans (heap_alloc_new w1 _)
  have hr2 := (hg2.block (w.heap.size + 1) (by have := lt_of_block HR.out; simp; omega) (by simp; omega)).trans ((heap_alloc_old w1 _ (lt_of_block HR.out)).trans HR.out)
  have HR2 := hide hr2
  have hI : Im.itr xs fuel Im.m0 fuel = Im.end_ xs fuel := rfl
  have hlen : (Im.end_ xs fuel).2.length ≤ fuel := by rw [← hI]; exact itr_len _ _ _ _
  rw [hI] at hm2 ho2
  obtain ⟨I, hIe⟩ : ∃ I, Im.end_ xs fuel = I := ⟨_, rfl⟩
  rw [hIe] at hm2 ho2 hlen
  have HIE := hide hIe
  clear hIe
  have HG2 : Hid (w.grownBy w2 (some B)) := grown_trans (grown_below HB1.out _) (grown_trans (grown_one w1 _ _) hg2)
  have HB2 : Hid (Below w.heap.size w w2) := ⟨HG2.out.os, HG2.out.tape, HG2.out.output, HG2.out.size, fun i hi => HG2.out.block i hi (by simp; omega)⟩
  have HM2 := hide hm2
  have HO2 := hide ho2
  have hwl : w.heap.size + 2 ≤ w1.heap.size := by have := lt_of_block HR.out; omega
  have hw2 : w1.heap.size < w2.heap.size := lt_of_block hOw
  have hBl : B < w1.heap.size := HM1.out.lt
  obtain ⟨adu, capu, rfl⟩ := rown_slice ho2
  generalize w1.heap.size = O at *
  clear hm2 ho2 hg2 hr2 HM1 HC1 HN HR hI p0
  go_wp2_with fail
  go_loopw [23] (fun t wr => ∃ (i : Nat) (cv pv : Value), t = .int .i64 (i : Int) ∧ i ≤ I.2.length ∧ Hid (Ob wr O cv pv) ∧ Hid (Rows2 wr w2.heap.size cv pv (Im.chk (I.2.take i)) (Im.pcs (I.2.take i))) ∧ Hid (w2.grownBy wr (some O))) (fun t _ => I.2.length - (intOf t).toNat)
  case atStart => exact ⟨0, .slice none 0 0, .slice none 0 0, rfl, Nat.zero_le _, hOw, ⟨World.ownsRow_nil _ _ _ _, World.ownsRow_nil _ _ _ _, fun g e => by cases e⟩, grown_none w2 0 _⟩
  case round =>
    obtain ⟨i, cv, pv, rfl, hil, HOb, HRw, HGw⟩ := hrel
    have hsz := HGw.out.size
    by_cases hlt : i < I.2.length
    · obtain ⟨a, ha⟩ : ∃ a, I.2[i]! = a := ⟨_, rfl⟩
      obtain ⟨gu, capu', hgu⟩ := own_some HO2.out (by omega)
      injection hgu with e1 e2 e3
      subst e1 e3
      have hat0 := acs_at I.2 i hlt
      rw [ha] at hat0
      have hru := rown_grown HO2.out HGw.out (fun k e e2 => by have := (HO2.out.lt k e).1; injection e2 with e2; omega)
      have k0 := hru.cells rfl _ _ hat0.1
      have k1 := hru.cells rfl _ _ hat0.2
      rw [addr_add, Nat.zero_add] at k0 k1
      have htk := take_one I.2 i hlt
      rw [ha] at htk
      have HTC := hide (chk_app (I.2.take i) a)
      have HTP := hide (pcs_app (I.2.take i) a)
      rw [← htk] at HTC HTP
      have hcl := chk_len (I.2.take i)
      have hpl2 := pcs_len (I.2.take i)
      rw [List.length_take] at hcl hpl2
      obtain ⟨o2, o3, -, -, -, oz⟩ := HOb.out.cells
      have hii : (i : Int) < (I.2.length : Int) := by omega
      have hne : ¬ O = wr.heap.size := by have := HOb.out.lt; omega
      have hne1 : ¬ O = wr.heap.size + 1 := by have := HOb.out.lt; omega
      obtain ⟨adc, capc, rfl⟩ := rown_slice HRw.out.c
      obtain ⟨adp, capp, rfl⟩ := rown_slice HRw.out.p
      obtain ⟨i0, hi0, hz0, hz1, hz2⟩ := info_parts infoStr
      clear hru hat0 ha htk
      have hOl := HOb.out.lt
      by_cases hk1 : a.1 = 1
      · have hki : ((a.1 : Int) == 1) = true := by rw [hk1]; rfl
        rw [if_pos hk1] at HTC HTP
        clear hk1
        go_wp2_with (at_builtin; refine wpList_append_lies _ rfl (.tmp 31) (.tmp 34) 46 rfl w2.heap.size 9 i0 (.string ⟨#[]⟩) 1 16 Tryz.underlying46 hi0 hz0 hz1 hz2 rfl (by decide) (.slice adc (Im.chk (I.2.take i)).length capc) (Im.chk (I.2.take i)).length (Im.strs (Im.chk (I.2.take i))) rfl (rown_grown HRw.out.c (grown_trans (grown_one wr (.cells #[.int .i64 (a.1 : Int), .string a.2] 58) none) (grown_one _ (.cells #[.string a.2] 9) none)) (fun _ _ => by simp)) ⟨wr.heap.size + 1, 0, none⟩ 1 1 [.string a.2] rfl (by simp) (World.news_of_block (cs := #[.string a.2]) (t := 9) (fr := (0, 0)) (by have h1 := heap_alloc_new (wr.alloc (.cells #[.int .i64 (a.1 : Int), .string a.2] 58)) (.cells #[.string a.2] 9); rw [World.size_alloc] at h1; exact h1)) (by simp [Value.oneCell']) (by decide) (by unfold maxLen; omega) (by omega) (by rw [World.size_alloc, World.size_alloc]; omega) (wr.heap.size + 2) (by rw [World.size_alloc, World.size_alloc]) ?_; intro g7 cap7 w7 hown hgrow hat hlt7; have HO7 := hide ((HOb.out.grown (grown_trans (grown_one wr (.cells #[.int .i64 (a.1 : Int), .string a.2] 58) none) (grown_one _ (.cells #[.string a.2] 9) none)) (by simp)).grown hgrow (fun e => by have := (HRw.out.c.lt O e.symm).1; omega)); obtain ⟨d2, d3, -, -, -, dz⟩ := HO7.out.cells)
        have h8 : w7.grownBy (w7.setCell ⟨O, 2, none⟩ (.slice (some ⟨g7, 0, none⟩) ((Im.chk (I.2.take i)).length + 1) cap7)) (some O) := grown_set _ _ _ _
        have hR8 := rows2_add HRw.out (grown_trans (grown_one wr (.cells #[.int .i64 (a.1 : Int), .string a.2] 58) none) (grown_one _ (.cells #[.string a.2] 9) none)) rfl hown rfl hgrow (hat.imp id (fun e => by rw [e, World.size_alloc, World.size_alloc])) hw2 h8
        have hG8 := grown_trans (grown_low (grown_trans HGw.out (grown_trans (grown_one wr (.cells #[.int .i64 (a.1 : Int), .string a.2] 58) _) (grown_one _ (.cells #[.string a.2] 9) _))) hgrow (fun g e => (HRw.out.c.lt g e).1)) h8
        go_roundw
        case rel => exact ⟨i + 1, _, _, by go_num, by omega, HO7.out.set2 _, by rw [HTC.out, HTP.out]; exact hR8, hG8⟩
        case measure => simp [intOf]; omega
      · have hki : ((a.1 : Int) == 1) = false := by rw [beq_eq_false_iff_ne]; omega
        rw [if_neg hk1] at HTC HTP
        go_wp2_with (at_builtin; refine wpList_append_lies _ rfl (.tmp 38) (.tmp 41) 46 rfl w2.heap.size 9 i0 (.string ⟨#[]⟩) 1 16 Tryz.underlying46 hi0 hz0 hz1 hz2 rfl (by decide) (.slice adp (Im.pcs (I.2.take i)).length capp) (Im.pcs (I.2.take i)).length (Im.strs (Im.pcs (I.2.take i))) rfl (rown_grown HRw.out.p (grown_trans (grown_one wr (.cells #[.int .i64 (a.1 : Int), .string a.2] 58) none) (grown_one _ (.cells #[.string a.2] 9) none)) (fun _ _ => by simp)) ⟨wr.heap.size + 1, 0, none⟩ 1 1 [.string a.2] rfl (by simp) (World.news_of_block (cs := #[.string a.2]) (t := 9) (fr := (0, 0)) (by have h1 := heap_alloc_new (wr.alloc (.cells #[.int .i64 (a.1 : Int), .string a.2] 58)) (.cells #[.string a.2] 9); rw [World.size_alloc] at h1; exact h1)) (by simp [Value.oneCell']) (by decide) (by unfold maxLen; omega) (by omega) (by rw [World.size_alloc, World.size_alloc]; omega) (wr.heap.size + 2) (by rw [World.size_alloc, World.size_alloc]) ?_; intro g7 cap7 w7 hown hgrow hat hlt7; have HO7 := hide ((HOb.out.grown (grown_trans (grown_one wr (.cells #[.int .i64 (a.1 : Int), .string a.2] 58) none) (grown_one _ (.cells #[.string a.2] 9) none)) (by simp)).grown hgrow (fun e => by have := (HRw.out.p.lt O e.symm).1; omega)); obtain ⟨d2, d3, -, -, -, dz⟩ := HO7.out.cells)
        have h8 : w7.grownBy (w7.setCell ⟨O, 3, none⟩ (.slice (some ⟨g7, 0, none⟩) ((Im.pcs (I.2.take i)).length + 1) cap7)) (some O) := grown_set _ _ _ _
        have hR8 := rows2_add HRw.out.swap (grown_trans (grown_one wr (.cells #[.int .i64 (a.1 : Int), .string a.2] 58) none) (grown_one _ (.cells #[.string a.2] 9) none)) rfl hown rfl hgrow (hat.imp id (fun e => by rw [e, World.size_alloc, World.size_alloc])) hw2 h8
        have hG8 := grown_trans (grown_low (grown_trans HGw.out (grown_trans (grown_one wr (.cells #[.int .i64 (a.1 : Int), .string a.2] 58) _) (grown_one _ (.cells #[.string a.2] 9) _))) hgrow (fun g e => (HRw.out.p.lt g e).1)) h8
        go_roundw
        case rel => exact ⟨i + 1, _, _, by go_num, by omega, HO7.out.set3 _, by rw [HTC.out, HTP.out]; exact hR8.swap, hG8⟩
        case measure => simp [intOf]; omega
    · obtain rfl : i = I.2.length := by omega
      rw [List.take_length] at HRw
      have hki : ¬ (I.2.length : Int) < (I.2.length : Int) := by omega
      have HMb := hide (HM2.out.grown HGw.out (by simp; omega))
      have hBk := HMb.out.lt
      have hneO : ¬ O = w.heap.size + 1 := by omega
      have hneO2 : ¬ w.heap.size + 1 = O := by omega
      obtain ⟨adc, capc, rfl⟩ := rown_slice HRw.out.c
      obtain ⟨adp, capp, rfl⟩ := rown_slice HRw.out.p
      go_wp2_with (first | (go_at_call 25; refine (result_any HMb.out).mono ?_; rintro e w9 ⟨rfl, hb9⟩; have HM9 := hide (HMb.out.below hb9 hBk); have HO9 := hide (HOb.out.grown (grown_below hb9 none) (by simp)); have HR9 := hide (((hb9.block _ (Nat.lt_of_lt_of_le (lt_of_block HR2.out) hsz)).trans ((HGw.out.block _ (lt_of_block HR2.out) (by simp; omega)))).trans HR2.out); obtain ⟨o2, o3, o0, o1, o4, oz⟩ := HO9.out.cells; obtain ⟨r0, r1, r2, r3, r4, rz⟩ := five_of HR9.out) | (go_at_call 21; refine (done_any HM9.out).mono ?_; rintro e w10 ⟨rfl, rfl⟩))
      have hY : (((w10.setCell ⟨O, 0, none⟩ (.int .i64 (Im.resC I.1 : Int))).setCell ⟨O, 1, none⟩ (.int .u64 (Im.resB I.1 : Int))).setCell ⟨O, 4, none⟩ (.int .i64 (I.1.dn : Int))).heap[w.heap.size + 1]? = some (.cells #[.int .i64 0, .int .u64 0, .slice none 0 0, .slice none 0 0, .int .i64 0] 48 (0, 0)) :=
        (Below.heap_setCell _ ⟨O, 4, none⟩ _ _ (by show w.heap.size + 1 ≠ O; omega)).trans ((Below.heap_setCell _ ⟨O, 1, none⟩ _ _ (by show w.heap.size + 1 ≠ O; omega)).trans ((Below.heap_setCell _ ⟨O, 0, none⟩ _ _ (by show w.heap.size + 1 ≠ O; omega)).trans HR9.out))
      have gA : wr.grownBy w10 none := grown_below hb9 none
      have gB := grown_trans (grown_set w10 O 0 (.int .i64 (Im.resC I.1 : Int))) (grown_trans (grown_set _ O 1 (.int .u64 (Im.resB I.1 : Int))) (grown_set _ O 4 (.int .i64 (I.1.dn : Int))))
      generalize ((w10.setCell ⟨O, 0, none⟩ (.int .i64 (Im.resC I.1 : Int))).setCell ⟨O, 1, none⟩ (.int .u64 (Im.resB I.1 : Int))).setCell ⟨O, 4, none⟩ (.int .i64 (I.1.dn : Int)) = W9 at *
      have q1 := block_set (block_set (block_set (block_set (block_set hY 0 (.int .i64 (Im.resC I.1 : Int))) 1 (.int .u64 (Im.resB I.1 : Int))) 2 (.slice adc (Im.chk I.2).length capc)) 3 (.slice adp (Im.pcs I.2).length capp)) 4 (.int .i64 (I.1.dn : Int))
      have gC := grown_trans (grown_set W9 (w.heap.size + 1) 0 (.int .i64 (Im.resC I.1 : Int))) (grown_trans (grown_set _ (w.heap.size + 1) 1 (.int .u64 (Im.resB I.1 : Int))) (grown_trans (grown_set _ (w.heap.size + 1) 2 (.slice adc (Im.chk I.2).length capc)) (grown_trans (grown_set _ (w.heap.size + 1) 3 (.slice adp (Im.pcs I.2).length capp)) (grown_set _ (w.heap.size + 1) 4 (.int .i64 (I.1.dn : Int))))))
      have hfin : ∀ (c : Value) (n : Nat) (l : List Value), wr.ownsRow w2.heap.size 9 1 c n l → _ := fun c n l hr => rown_low (rown_grown (rown_grown (rown_grown hr gA (fun _ _ => by simp)) gB (fun k e e2 => by have := (hr.lt k e).1; injection e2 with e2; omega)) gC (fun k e e2 => by have := (hr.lt k e).1; injection e2 with e2; omega)) (show w.heap.size ≤ w2.heap.size by omega)
      refine bodyPost_ret (res5 rfl _ _ (w.heap.size + 1) _ (.int .i64 0) rfl rfl q1 rfl) rfl ⟨_, rfl, ?_, ?_⟩
      · rw [HIE.out]; exact ⟨_, _, rfl, hfin _ _ _ HRw.out.c, hfin _ _ _ HRw.out.p⟩
      · have hsw : w.heap.size ≤ w2.heap.size := HB2.out.size
        exact HB2.out.trans (below_of_grown (grown_trans (grown_low HGw.out gA (fun g e => by cases e)) gB) gC (by omega) (by omega) hsw)
end Go.Proofs.YthjngodkpldpfaaGreatDoor
end

section
namespace Go.Proofs.YthjngodkpldpfaaGreatDoor
open Go.RowKit Go.Shelf

theorem doM_trap (m : Mc) (x : In) (many : Nat) : (Im.doM m x many).1 ≠ 1 := by
  refine doM_ind (P := fun d => d.1 ≠ 1) m x many ?_ ?_ ?_ ?_ ?_ ?_ ?_ ?_ ?_ ?_ ?_ ?_ ?_ ?_ ?_ ?_ ?_ ?_ ?_ ?_
  all_goals exact fun _ h => absurd h (by dsimp only; omega)
/-- a step with less fuel and with more -/
theorem stp_more {xs : List In} {f d : Nat} {m : Mc} (h : m.Ok xs.length f) (ho : m.ov = false) (hd : 0 < d) :
    ((Im.stp xs f m).1.en ≠ 1 ∧ Im.stp xs (f + d) m = Im.stp xs f m) ∨ ((Im.stp xs f m).1.en = 1 ∧ (Im.stp xs f m).1.ov = true ∧ (Im.stp xs f m).1.dn = f ∧ (Im.stp xs (f + d) m).1.ov = false ∧ (Im.stp xs (f + d) m).1.dn = f ∧ (Im.stp xs (f + d) m).2 = (Im.stp xs f m).2) := by
  have hl := h.live ho
  have hk := doM_keeps (Im.ready m) xs[m.pl]! xs.length
  have ht := doM_trap (Im.ready m) xs[m.pl]! xs.length
  have hen : (Im.doM (Im.ready m) xs[m.pl]! xs.length).2.1.en = 0 := hk.2.1.trans hl.2.2
  have hdn : (Im.doM (Im.ready m) xs[m.pl]! xs.length).2.1.dn = m.dn + 1 := hk.1
  unfold Im.stp
  generalize Im.doM (Im.ready m) xs[m.pl]! xs.length = D at *
  by_cases h0 : D.1 = 0
  · rw [if_pos h0, if_pos h0]
    unfold Im.settle
    by_cases h1 : D.2.1.ov = true
    · rw [if_pos h1, if_pos h1]
      exact .inl ⟨by rw [hen]; decide, rfl⟩
    rw [if_neg h1, if_neg h1]
    by_cases h2 : D.2.1.pl = xs.length
    · rw [if_pos h2, if_pos h2]
      exact .inl ⟨by show D.2.1.en ≠ 1; rw [hen]; decide, rfl⟩
    rw [if_neg h2, if_neg h2]
    by_cases h3 : D.2.1.dn = f
    · rw [if_pos h3, if_neg (by omega)]
      exact .inr ⟨rfl, rfl, h3, by simpa using h1, h3, rfl⟩
    · rw [if_neg h3, if_neg (by have := hl.2.1; omega)]
      exact .inl ⟨by show D.2.1.en ≠ 1; rw [hen]; decide, rfl⟩
  · rw [if_neg h0, if_neg h0]
    exact .inl ⟨ht, rfl⟩
theorem nxt_live {xs : List In} {f : Nat} {s : Mc × List (Nat × ByteArray)} (h : s.1.ov = false) : Im.nxt xs f s = ((Im.stp xs f s.1).1, if (Im.stp xs f s.1).2.1 = 0 then s.2 else s.2 ++ [(Im.stp xs f s.1).2]) := by
  unfold Im.nxt; rw [if_neg (by rw [h]; decide)]
theorem itr_same {xs : List In} {f d : Nat} (hd : 0 < d) (g : ∀ x ∈ xs, x.Good xs.length) {m : Mc} (h : m.Ok xs.length f) : ∀ k, (Im.itr xs f m k).1.ov = false → Im.itr xs (f + d) m k = Im.itr xs f m k
  | 0, _ => rfl
  | k + 1, ho => by
    by_cases h1 : (Im.itr xs f m k).1.ov = true
    · rw [itr_over h1 1, h1] at ho; cases ho
    rw [Bool.not_eq_true] at h1
    have ih := itr_same hd g h k h1
    show Im.nxt xs (f + d) (Im.itr xs (f + d) m k) = Im.nxt xs f (Im.itr xs f m k)
    have ho' : (Im.nxt xs f (Im.itr xs f m k)).1.ov = false := ho
    rw [ih]
    rw [nxt_live h1] at ho'
    rw [nxt_live h1, nxt_live h1]
    rcases stp_more (itr_ok h g k) h1 hd with ⟨_, h2⟩ | ⟨_, h2, _⟩
    · rw [h2]
    · rw [show (Im.stp xs f (Im.itr xs f m k).1).1.ov = true from h2] at ho'; cases ho'
/-- the step that ends it -/
theorem itr_last {xs : List In} {f : Nat} {m : Mc} (hm : m.ov = false) : ∀ n, (Im.itr xs f m n).1.ov = true → ∃ k, k < n ∧ (Im.itr xs f m k).1.ov = false ∧ Im.itr xs f m (k + 1) = Im.itr xs f m n
  | 0, h => by rw [show (Im.itr xs f m 0).1.ov = m.ov from rfl, hm] at h; cases h
  | n + 1, h => by
    by_cases h1 : (Im.itr xs f m n).1.ov = true
    · obtain ⟨k, hk, h2, h3⟩ := itr_last hm n h1
      exact ⟨k, by omega, h2, h3.trans (itr_over h1 1).symm⟩
    · exact ⟨n, by omega, by simpa using h1, rfl⟩
theorem itr_ends {xs : List In} {f : Nat} {m : Mc} (h : m.Ok xs.length f) (g : ∀ x ∈ xs, x.Good xs.length) (n : Nat) (hn : f ≤ m.dn + n) : (Im.itr xs f m n).1.ov = true := by
  by_cases h1 : (Im.itr xs f m n).1.ov = true
  · exact h1
  · rw [Bool.not_eq_true] at h1
    have h2 := itr_dn h g n h1
    have h3 := ((itr_ok h g n).live h1).2.1
    omega
theorem itr_pre (xs : List In) (f : Nat) (m : Mc) (k : Nat) : ∀ j, ∃ t, (Im.itr xs f m (k + j)).2 = (Im.itr xs f m k).2 ++ t
  | 0 => ⟨[], by simp⟩
  | j + 1 => by
    obtain ⟨t, ht⟩ := itr_pre xs f m k j
    show ∃ t, (Im.nxt xs f (Im.itr xs f m (k + j))).2 = _
    unfold Im.nxt
    split
    · exact ⟨t, ht⟩
    · dsimp only
      split
      · exact ⟨t, ht⟩
      · exact ⟨t ++ [(Im.stp xs f (Im.itr xs f m (k + j)).1).2], by rw [ht, List.append_assoc]⟩
theorem itr_dn_le (xs : List In) (f : Nat) (m : Mc) (k : Nat) : ∀ j, (Im.itr xs f m k).1.dn ≤ (Im.itr xs f m (k + j)).1.dn
  | 0 => Nat.le_refl _
  | j + 1 => by
    refine Nat.le_trans (itr_dn_le xs f m k j) ?_
    show _ ≤ (Im.nxt xs f (Im.itr xs f m (k + j))).1.dn
    unfold Im.nxt
    split
    · exact Nat.le_refl _
    · show _ ≤ (Im.stp xs f _).1.dn
      rw [stp_dn]; omega
theorem Mc.Ok.more {m : Mc} {many f : Nat} (h : m.Ok many f) (d : Nat) : m.Ok many (f + d) := { h with dn := Nat.le_trans h.dn (Nat.le_add_right _ _), live := fun ho => ⟨(h.live ho).1, Nat.lt_of_lt_of_le (h.live ho).2.1 (Nat.le_add_right _ _), (h.live ho).2.2⟩ }
/-- more fuel -/
theorem fuel_more {xs : List In} {f d : Nat} (hd : 0 < d) (hp : Pok f xs) :
    ((Im.end_ xs f).1.en ≠ 1 ∧ Im.end_ xs (f + d) = Im.end_ xs f) ∨ ((Im.end_ xs f).1.en = 1 ∧ (Im.end_ xs f).1.dn = f ∧ f < (Im.end_ xs (f + d)).1.dn ∧ ∃ t, (Im.end_ xs (f + d)).2 = (Im.end_ xs f).2 ++ t) := by
  have h0 := m0_ok xs.length f hp.l1 hp.f1
  have ho := itr_ends h0 hp.good f (by show f ≤ 0 + f; omega)
  obtain ⟨k, hk, h1, h2⟩ := itr_last (m := Im.m0) rfl f ho
  have hs := itr_same hd hp.good h0 k h1
  have e1 : Im.itr xs f Im.m0 (k + 1) = Im.nxt xs f (Im.itr xs f Im.m0 k) := rfl
  have e2 : Im.itr xs (f + d) Im.m0 (k + 1) = Im.nxt xs (f + d) (Im.itr xs f Im.m0 k) := by show Im.nxt xs (f + d) _ = _; rw [hs]
  unfold Im.nxt at e1 e2
  rw [if_neg (by rw [h1]; decide)] at e1 e2
  have ed : Im.end_ xs f = Im.itr xs f Im.m0 (k + 1) := h2.symm
  obtain ⟨j, hj⟩ : ∃ j, f + d = k + 1 + j := ⟨f + d - (k + 1), by omega⟩
  rcases stp_more (itr_ok h0 hp.good k) h1 hd with ⟨h3, h4⟩ | ⟨h3, h4, h5, h6, h7, h8⟩
  · left
    rw [h4, ← e1] at e2
    refine ⟨by rw [ed, e1]; exact h3, ?_⟩
    show Im.itr xs (f + d) Im.m0 (f + d) = _
    have hov : (Im.itr xs (f + d) Im.m0 (k + 1)).1.ov = true := by rw [e2, h2]; exact ho
    rw [hj] at hov e2 ⊢
    rw [itr_over hov j, e2, ed]
  · right
    have hnot : (Im.itr xs (f + d) Im.m0 (k + 1)).1.ov = false := by rw [e2]; exact h6
    have hdn : (Im.itr xs (f + d) Im.m0 (k + 1)).1.dn = f := by rw [e2]; exact h7
    have hac : (Im.itr xs (f + d) Im.m0 (k + 1)).2 = (Im.itr xs f Im.m0 (k + 1)).2 := by rw [e1, e2]; dsimp only; rw [h8]
    refine ⟨by rw [ed, e1]; exact h3, by rw [ed, e1]; exact h5, ?_, ?_⟩
    · have hend := itr_ends (h0.more d) hp.good (f + d) (by show f + d ≤ 0 + (f + d); omega)
      have hlt := ((itr_ok (h0.more d) hp.good (k + 1)).live hnot).2.1
      obtain ⟨i, hi⟩ : ∃ i, f + d = (k + 1 + 1) + i := ⟨f + d - (k + 2), by rw [itr_dn (h0.more d) hp.good _ hnot] at hdn; have : Im.m0.dn = 0 := rfl; omega⟩
      have h9 : (Im.itr xs (f + d) Im.m0 (k + 1 + 1)).1.dn = f + 1 := by
        show (Im.nxt xs (f + d) (Im.itr xs (f + d) Im.m0 (k + 1))).1.dn = _
        unfold Im.nxt
        rw [if_neg (by rw [hnot]; decide)]
        show (Im.stp xs (f + d) _).1.dn = _
        rw [stp_dn, hdn]
      have h10 := itr_dn_le xs (f + d) Im.m0 (k + 1 + 1) i
      rw [h9] at h10
      show f < (Im.itr xs (f + d) Im.m0 (f + d)).1.dn
      have : (Im.itr xs (f + d) Im.m0 (k + 1 + 1 + i)).1.dn = (Im.itr xs (f + d) Im.m0 (f + d)).1.dn := by rw [← hi]
      omega
    · obtain ⟨t, ht⟩ := itr_pre xs (f + d) Im.m0 (k + 1) j
      refine ⟨t, ?_⟩
      show (Im.itr xs (f + d) Im.m0 (f + d)).2 = _
      rw [← hj] at ht
      rw [ht, hac, ed]
theorem chk_cat (a b : List (Nat × ByteArray)) : Im.chk (a ++ b) = Im.chk a ++ Im.chk b := by unfold Im.chk; rw [List.filter_append, List.map_append]
theorem pcs_cat (a b : List (Nat × ByteArray)) : Im.pcs (a ++ b) = Im.pcs a ++ Im.pcs b := by unfold Im.pcs; rw [List.filter_append, List.map_append]
theorem resC_en {m : Mc} : Im.resC m = m.en := by unfold Im.resC; split; rename_i h; exact h.2.symm; rfl
/-- more fuel still may be -/
theorem check_more {f d : Nat} {xs : List In} (h : Pg.checkE f xs = (0, 0)) (hd : f + d ≤ 1024) : Pg.checkE ((f : Int) + (d : Int)) xs = (0, 0) := by
  unfold Pg.checkE at h ⊢
  split at h
  · cases h
  rename_i h1
  rw [if_neg (by omega)]
  exact h
end Go.Proofs.YthjngodkpldpfaaGreatDoor
end

section
namespace Go.Proofs.YthjngodkpldpfaaGreatDoor
open Go.RowKit Go.Shelf

/-- a slice of texts that is only read -/
structure Sl (w : World) (v : Value) (l : List ByteArray) : Prop where
  form : ∃ p cap, v = .slice p l.length cap ∧ l.length ≤ cap ∧ (0 < l.length → ∃ b off, p = some ⟨b, off, none⟩ ∧ b < w.heap.size ∧ ∀ j, j < l.length → w.cell? ⟨b, off + j, none⟩ = some (.string l[j]!))
theorem Sl.below {w w' : World} {v : Value} {l : List ByteArray} (h : Sl w v l) (k : Below w.heap.size w w') : Sl w' v l := by
  obtain ⟨p, cap, hv, hcl, h1⟩ := h
  refine ⟨p, cap, hv, hcl, fun h0 => ?_⟩
  obtain ⟨b, off, hp, hb, hc⟩ := h1 h0
  exact ⟨b, off, hp, Nat.lt_of_lt_of_le hb k.size, fun j hj => (k.cell (p := ⟨b, off + j, none⟩) hb).trans (hc j hj)⟩
theorem strs_at (l : List ByteArray) (j : Nat) (h : j < l.length) : (Im.strs l)[j]? = some (.string l[j]!) := by
  unfold Im.strs; rw [List.getElem?_map, List.getElem?_eq_getElem h, getElem!_pos l j h]; rfl
theorem sl_of {w : World} {base : Nat} {v : Value} {l : List ByteArray} (h : w.ownsRow base 9 1 v l.length (Im.strs l)) : Sl w v l := by
  have hf := h.2
  rcases hf with ⟨h1, h2⟩ | ⟨g, cap, cur, rfl, hg, hh, h3⟩
  · exact ⟨none, 0, by rw [h2]; exact h1, by omega, fun h0 => by omega⟩
  · have hcap : l.length ≤ cap := by have := h3; omega
    refine ⟨some ⟨g, 0, none⟩, cap, rfl, hcap, fun _ => ⟨g, 0, rfl, lt_of_block hh, fun j hj => ?_⟩⟩
    have := h.cells (g := g) rfl j _ (strs_at l j hj)
    rw [addr_add] at this
    exact this
theorem bd_drew (w : World) (n : Nat) : Below w.heap.size w (w.drewN n) := ⟨rfl, rfl, rfl, Nat.le_refl _, fun _ _ => rfl⟩
theorem beq_self (s : ByteArray) : (s.toList == s.toList) = true := by simp
set_option maxHeartbeats 1000000 in
theorem sameTexts_eq {w : World} {v1 v2 : Value} {l : List ByteArray} (h1 : Sl w v1 l) (h2 : Sl w v2 l) (hl : l.length < 1000000) :
    Calls Tryz.prog 26 #[v1, v2] w fun e w' => e = .returned (.bool true) ∧ Below w.heap.size w w' := by
  obtain ⟨p1, cap1, rfl, -, k1⟩ := h1
  obtain ⟨p2, cap2, rfl, -, k2⟩ := h2
  go_enter Tryz.func26, Tryz.ntmps26
  go_wp2_with fail
  go_loopw [5] (fun t wr => ∃ i q : Nat, t = .int .i64 (i : Int) ∧ i ≤ l.length ∧ wr = w.drewN q) (fun t _ => l.length - (intOf t).toNat)
  case atStart => exact ⟨0, 0, rfl, Nat.zero_le _, rfl⟩
  case round =>
    obtain ⟨i, q, rfl, hil, rfl⟩ := hrel
    by_cases hlt : i < l.length
    · obtain ⟨b1, o1, rfl, _, c1⟩ := k1 (by omega)
      obtain ⟨b2, o2, rfl, _, c2⟩ := k2 (by omega)
      have d1 := c1 i hlt
      have d2 := c2 i hlt
      generalize l[i]! = s at *
      have hbe := beq_self s
      have hii : (i : Int) < (l.length : Int) := by omega
      have hn : ¬ l.length ≤ i := by omega
      go_wp2_with fail
      go_quiet (fail)
      go_wp2_with fail
      go_roundw
      case rel => exact ⟨i + 1, _, by go_num, by omega, rfl⟩
      case measure => simp [intOf]; omega
    · obtain rfl : i = l.length := by omega
      have hii : ¬ (l.length : Int) < (l.length : Int) := by omega
      go_wp2_with fail
      go_ret
      exact ⟨rfl, bd_drew w q⟩
/-- an outcome, read -/
structure OutS (w : World) (o : Value) (c b st : Nat) (ch pc : List ByteArray) : Prop where
  form : ∃ cv pv, o = .agg #[.int .i64 (c : Int), .int .u64 (b : Int), cv, pv, .int .i64 (st : Int)] ∧ Sl w cv ch ∧ Sl w pv pc
theorem OutS.below {w w' : World} {o : Value} {c b st : Nat} {ch pc : List ByteArray} (h : OutS w o c b st ch pc) (k : Below w.heap.size w w') : OutS w' o c b st ch pc := by
  obtain ⟨cv, pv, ho, h1, h2⟩ := h
  exact ⟨cv, pv, ho, h1.below k, h2.below k⟩
theorem out_s {w : World} {base : Nat} {o : Value} {I : Mc × List (Nat × ByteArray)} (h : Out w base o I) : OutS w o (Im.resC I.1) (Im.resB I.1) I.1.dn (Im.chk I.2) (Im.pcs I.2) := by
  obtain ⟨cv, pv, ho, h1, h2⟩ := h
  exact ⟨cv, pv, ho, sl_of h1, sl_of h2⟩
set_option maxHeartbeats 1000000 in
theorem sameOutcome_eq {w : World} {o1 o2 : Value} {c b st : Nat} {ch pc : List ByteArray} (h1 : OutS w o1 c b st ch pc) (h2 : OutS w o2 c b st ch pc) (hl1 : ch.length < 1000000) (hl2 : pc.length < 1000000) :
    Calls Tryz.prog 19 #[o1, o2] w fun e w' => e = .returned (.bool true) ∧ Below w.heap.size w w' := by
  obtain ⟨cv1, pv1, rfl, a1, a2⟩ := h1
  obtain ⟨cv2, pv2, rfl, b1, b2⟩ := h2
  have HS1 := hide (fun w1 (k1 : Sl w1 cv1 ch) (k2 : Sl w1 cv2 ch) => sameTexts_eq k1 k2 hl1)
  have HS2 := hide (fun w1 (k1 : Sl w1 pv1 pc) (k2 : Sl w1 pv2 pc) => sameTexts_eq k1 k2 hl2)
  have HA1 := hide a1
  have HA2 := hide a2
  have HB1 := hide b1
  have HB2 := hide b2
  obtain ⟨p1, c1, rfl, -, -⟩ := a1
  obtain ⟨p2, c2, rfl, -, -⟩ := a2
  obtain ⟨p3, c3, rfl, -, -⟩ := b1
  obtain ⟨p4, c4, rfl, -, -⟩ := b2
  go_enter Tryz.func19, Tryz.ntmps19
  go_wp2_with fail
  have hW : Below w.heap.size w ((w.alloc (.cells #[.int .i64 (c : Int), .int .u64 (b : Int), .slice p1 ch.length c1, .slice p2 pc.length c2, .int .i64 (st : Int)] 48)).alloc (.cells #[.int .i64 (c : Int), .int .u64 (b : Int), .slice p3 ch.length c3, .slice p4 pc.length c4, .int .i64 (st : Int)] 48)) := (below_one w _).trans ((below_one _ _).mono (by simp))
  refine (HS1.out _ (HA1.out.below hW) (HB1.out.below hW)).mono ?_
  rintro e w3 ⟨rfl, hb3⟩
  have HB3 : Hid (Below w.heap.size w w3) := hW.trans (hb3.mono (by simp; omega))
  have x1 : w3.heap[w.heap.size]? = some (.cells #[.int .i64 (c : Int), .int .u64 (b : Int), .slice p1 ch.length c1, .slice p2 pc.length c2, .int .i64 (st : Int)] 48 (0, 0)) := (hb3.block w.heap.size (by simp; omega)).trans ((heap_alloc_old _ _ (by simp)).trans (heap_alloc_new w _))
  have x2 : w3.heap[w.heap.size + 1]? = some (.cells #[.int .i64 (c : Int), .int .u64 (b : Int), .slice p3 ch.length c3, .slice p4 pc.length c4, .int .i64 (st : Int)] 48 (0, 0)) := (hb3.block (w.heap.size + 1) (by simp)).trans (by have q := heap_alloc_new (w.alloc (.cells #[.int .i64 (c : Int), .int .u64 (b : Int), .slice p1 ch.length c1, .slice p2 pc.length c2, .int .i64 (st : Int)] 48)) (.cells #[.int .i64 (c : Int), .int .u64 (b : Int), .slice p3 ch.length c3, .slice p4 pc.length c4, .int .i64 (st : Int)] 48); rw [World.size_alloc] at q; exact q)
  have y1 : w3.cell? ⟨w.heap.size, 3, none⟩ = some (.slice p2 pc.length c2) := (five_of x1).2.2.2.1
  have y2 : w3.cell? ⟨w.heap.size + 1, 3, none⟩ = some (.slice p4 pc.length c4) := (five_of x2).2.2.2.1
  clear x1 x2 hb3 hW
  go_wp2_with fail
  refine (HS2.out _ (HA2.out.below HB3.out) (HB2.out.below HB3.out)).mono ?_
  rintro e w4 ⟨rfl, hb4⟩
  go_wp2_with fail
  go_ret
  exact ⟨rfl, HB3.out.trans (hb4.mono HB3.out.size)⟩
set_option maxHeartbeats 1000000 in
theorem begins_eq {w : World} {v1 v2 : Value} {a t : List ByteArray} (h1 : Sl w v1 a) (h2 : Sl w v2 (a ++ t)) (hl : (a ++ t).length < 1000000) :
    Calls Tryz.prog 27 #[v1, v2] w fun e w' => e = .returned (.bool true) ∧ Below w.heap.size w w' := by
  have HA := hide h1
  have HB := hide h2
  obtain ⟨p1, c1, rfl, -, -⟩ := h1
  obtain ⟨p2, c2, rfl, hcap, -⟩ := h2
  rw [List.length_append] at hcap hl HB ⊢
  have haz : Option.map (fun x : Addr => x.add 0) p2 = p2 := by cases p2 <;> simp [Addr.add]
  have hle : (a.length : Int) ≤ (a.length : Int) + (t.length : Int) := by omega
  have hci : (a.length : Int) ≤ (c2 : Int) := by omega
  have HV : Hid (Sl w (.slice p2 a.length c2) a) := by
    obtain ⟨p, cap, hv, hc, h1⟩ := HB.out
    rw [← List.length_append] at hv
    injection hv with e1 e2 e3
    subst e1 e3
    refine ⟨p2, c2, rfl, by omega, fun h0 => ?_⟩
    obtain ⟨b, off, hp, hb, hcell⟩ := h1 (by rw [List.length_append]; omega)
    refine ⟨b, off, hp, hb, fun j hj => ?_⟩
    have := hcell j (by rw [List.length_append]; omega)
    rw [getElem!_pos (a ++ t) j (by rw [List.length_append]; omega), List.getElem_append_left hj] at this
    rw [getElem!_pos a j hj]
    exact this
  have HS := hide (sameTexts_eq HA.out HV.out (by omega))
  go_enter Tryz.func27, Tryz.ntmps27
  go_wp2_with fail
  refine HS.out.mono ?_
  rintro e w4 ⟨rfl, hb4⟩
  go_wp2_with fail
  go_ret
  exact ⟨rfl, hb4⟩
set_option maxRecDepth 20000 in
set_option maxHeartbeats 2000000 in
theorem whole_no {w : World} {v : Value} {fuel : Int} {xs : List In} (hx : ∀ x ∈ xs, x.Fits) (h : Cd w v xs) (hc : (Pg.checkE fuel xs).1 ≠ 0) :
    Calls Tryz.prog 17 #[.agg #[.int .i64 fuel, v]] w fun e w' => e = .returned (.tuple #[.agg #[.int .i64 0, .int .u64 0, .slice none 0 0, .slice none 0 0, .int .i64 0], .int .i64 (Pg.checkE fuel xs).1]) ∧ Below w.heap.size w w' := by
  have HN := hide (fun w1 (h1 : Cd w1 v xs) => new_no hx h1 hc)
  have HCd := hide h
  obtain ⟨p, cap, rfl, -⟩ := h
  generalize Pg.checkE fuel xs = E at *
  have hb : (E.1 != 0) = true := by rw [bne_iff_ne]; exact hc
  clear hc hx
  go_enter Tryz.func17, Tryz.ntmps17
  go_wp2_with fail
  have hW : Below w.heap.size w ((w.alloc (.cells #[.int .i64 fuel, .slice p xs.length cap] 24)).alloc (.cells #[.int .i64 0, .int .u64 0, .slice none 0 0, .slice none 0 0, .int .i64 0] 48)) := (below_one w _).trans ((below_one _ _).mono (by simp))
  refine (HN.out _ (HCd.out.below hW (Nat.le_refl _))).mono ?_
  rintro e w1 ⟨rfl, hb1⟩
  have hr : w1.heap[w.heap.size + 1]? = some (.cells #[.int .i64 0, .int .u64 0, .slice none 0 0, .slice none 0 0, .int .i64 0] 48 (0, 0)) := (hb1.block (w.heap.size + 1) (by simp)).trans (by have q := heap_alloc_new (w.alloc (.cells #[.int .i64 fuel, .slice p xs.length cap] 24)) (.cells #[.int .i64 0, .int .u64 0, .slice none 0 0, .slice none 0 0, .int .i64 0] 48); rw [World.size_alloc] at q; exact q)
  have HB1 : Hid (Below w.heap.size w w1) := hW.trans (hb1.mono (by simp; omega))
  have HR := hide hr
  obtain ⟨r0, r1, r2, r3, r4, rz⟩ := five_of hr
  clear hb1 hr
  go_wp2_with fail
  have q1 := block_set (block_set (block_set (block_set (block_set HR.out 0 (.int .i64 0)) 1 (.int .u64 0)) 2 (.slice none 0 0)) 3 (.slice none 0 0)) 4 (.int .i64 0)
  have gC := grown_trans (grown_set w1 (w.heap.size + 1) 0 (.int .i64 0)) (grown_trans (grown_set _ (w.heap.size + 1) 1 (.int .u64 0)) (grown_trans (grown_set _ (w.heap.size + 1) 2 (.slice none 0 0)) (grown_trans (grown_set _ (w.heap.size + 1) 3 (.slice none 0 0)) (grown_set _ (w.heap.size + 1) 4 (.int .i64 0)))))
  exact bodyPost_ret (res5 rfl _ _ (w.heap.size + 1) _ (.int .i64 E.1) rfl rfl q1 rfl) rfl ⟨rfl, HB1.out.trans (below_of_grown (grown_none w1 0 (some (w.heap.size + 1))) gC (by omega) (by omega) HB1.out.size)⟩
end Go.Proofs.YthjngodkpldpfaaGreatDoor
end
