import Derived.Test.YtepondcflkledaaGreatMgAT
import Derived.Lib.AppendZerosOnto

section
namespace Go.Proofs.YtepondcflkledaaGreat.S
set_option maxRecDepth 20000
open Go.RowKit

theorem Tryz.infoSt : (Tryz.prog.info? 9).map (fun i => (i.zero, i.size, i.bytes)) = some (some (.string ByteArray.empty), 1, 16) := by kernel_rfl
/-- the cells of texts -/
def tcs (l : List ByteArray) : List Value := l.map .string
theorem tcs_len (l : List ByteArray) : (tcs l).length = l.length * 1 := by simp [tcs]
theorem tcs_append (l m : List ByteArray) : tcs (l ++ m) = tcs l ++ tcs m := by simp [tcs]
theorem tcs_ones (l : List ByteArray) : ∀ u ∈ tcs l, u.oneCell' = true := by
  intro u hu
  obtain ⟨x, _, rfl⟩ := List.mem_map.1 hu
  rfl
theorem tcs_get {l : List ByteArray} {j : Nat} {u : Value} (h : (tcs l)[j]? = some u) : j < l.length ∧ u = .string l[j]! := by
  have hl : j < (tcs l).length := (List.getElem?_eq_some_iff.1 h).1
  rw [tcs_len, Nat.mul_one] at hl
  refine ⟨hl, ?_⟩
  unfold tcs at h
  rw [List.getElem?_map, List.getElem?_eq_getElem hl] at h
  rw [getElem!_pos l j hl]
  exact (Option.some.inj h).symm
theorem tx_src {w : World} {t : Value} {l : List ByteArray} (h : Tx w t l) : ∃ p cap, t = .slice p l.length cap ∧ (p = none → l.length = 0) ∧ ∀ a0, p = some a0 → ∀ j u, (tcs l)[j]? = some u → w.cell? (a0.add j) = some u := by
  obtain ⟨p, cap, rfl, h2⟩ := h
  refine ⟨p, cap, rfl, fun hp => ?_, fun a0 ha j u hu => ?_⟩
  · apply Classical.byContradiction
    intro h0
    obtain ⟨b, off, e, _⟩ := h2 (by omega)
    rw [hp] at e
    cases e
  · obtain ⟨hj, rfl⟩ := tcs_get hu
    obtain ⟨b, off, e, _, hc⟩ := h2 (by omega)
    rw [ha] at e
    injection e with e
    subst e
    rw [Addr.add_lit]
    exact hc j hj
theorem tx_own {w : World} {base : Nat} {t : Value} {l : List ByteArray} (h : w.ownsRow base 9 1 t l.length (tcs l)) : Tx w t l := by
  rcases h.2 with ⟨rfl, h0⟩ | ⟨g, cap, cur, rfl, _, hg, _⟩
  · rw [List.length_eq_zero_iff.1 h0]; exact Tx.nil w
  · refine ⟨some ⟨g, 0, none⟩, cap, rfl, fun _ => ⟨g, 0, rfl, lt_of_block hg, fun j hj => ?_⟩⟩
    have := h.cells (g := g) rfl j (.string l[j]!) (by unfold tcs; rw [List.getElem?_map, List.getElem?_eq_getElem hj, getElem!_pos l j hj]; rfl)
    rw [Addr.add_lit, Nat.zero_add] at this
    rw [Nat.zero_add]; exact this
set_option maxHeartbeats 1000000 in
theorem s_clone {w : World} {t : Value} {l : List ByteArray} (h : Tx w t l) (hl : l.length ≤ 64) :
    Calls Tryz.prog 68 #[t] w fun e w' => ∃ t', e = .returned t' ∧ w'.ownsRow w.heap.size 9 1 t' l.length (tcs l) ∧ Below w.heap.size w w' := by
  obtain ⟨i0, hi0, hz0, hz1, hz2⟩ := info_parts Tryz.infoSt
  obtain ⟨p, cap, rfl, hn, hc⟩ := tx_src h
  cases p with
  | none =>
    have h0 := hn rfl
    have HE : Hid (w.ownsRow w.heap.size 9 1 (.slice none 0 0) l.length (tcs l)) := by
      obtain rfl : l = [] := List.length_eq_zero_iff.1 h0
      exact World.ownsRow_nil _ _ _ _
    generalize l.length = n at *
    subst h0
    have he : ∀ w : World, (binOp .eql 52 (.slice none 0 cap) (.slice none 0 0)).run Tryz.prog w = .ok (.bool true) w := fun _ => by kernel_rfl
    clear h hn hc
    go_enter Tryz.func68, Tryz.ntmps68
    go_wp2
    go_ret
    exact ⟨_, rfl, HE.out, Below.refl _ _⟩
  | some a =>
    have HR := hide (hc a rfl)
    have he : ∀ w : World, (binOp .eql 52 (.slice (some a) l.length cap) (.slice none 0 0)).run Tryz.prog w = .ok (.bool false) w := fun _ => by kernel_rfl
    clear h hn hc
    go_enter Tryz.func68, Tryz.ntmps68
    go_wp2_with (at_builtin; refine wpList_append_own _ rfl _ _ 52 rfl w.heap.size 9 i0 (.string ByteArray.empty) 1 16 Tryz.underlying52 hi0 hz0 hz1 hz2 rfl (by decide) (.slice (some ⟨w.heap.size, 0, none⟩) 0 0) 0 [] rfl (World.ownsRow_made w #[] 0 (Nat.le_refl _) (by decide) rfl) a l.length cap (tcs l) rfl (tcs_len l) (fun j u hu => Lib.cell?_alloc_some _ (HR.out j u hu)) (tcs_ones l) (by unfold maxLen; omega) (by omega) (by rw [World.size_alloc]; omega) ?_; intro v' w1 hown hgrow hnil)
    go_ret
    rw [Nat.zero_add, List.nil_append] at hown
    exact ⟨_, rfl, hown, ((Below.refl _ w).alloc (Nat.le_refl _) _).grown hgrow (by rw [World.size_alloc]; omega) (fun k hk => by simp only [Value.ownBlock] at hk; injection hk with hk; omega)⟩
set_option maxHeartbeats 1000000 in
theorem s_grow {n : Nat} (h0 : 0 < n) (hn : n ≤ 64) (w : World) :
    Calls Tryz.prog 150 #[.slice none 0 0, .int .i64 (n : Int)] w fun e w' => ∃ t, e = .returned t ∧ w'.ownsRow w.heap.size 9 1 t 0 [] ∧ Below w.heap.size w w' := by
  obtain ⟨i0, hi0, hz0, hz1, hz2⟩ := info_parts Tryz.infoSt
  have hold : (Builtin.firstCells i0.size 0 (.slice none 0 0)).run Tryz.prog w.drew = .ok (([] : List Value).toArray) w.drew := run_firstCells_none w.drew i0.size 0 0 0
  have hrz := fun ty => Lib.run_append_grow_zeros (P := Tryz.prog) w 52 3 ty 9 i0 (.string ByteArray.empty) .i64 .i64 Tryz.underlying52 Tryz.underlying3 hi0 hz0 none 0 0 [] hold n h0 (by omega) (by omega) (by omega) (by rw [hz2]; omega) (by rw [hz2]; exact growslice_fits (by omega) (by omega))
  have hG := grownCap_ge w (0 + n) 0 9
  have hGm := grownCap_le_maxLen w (0 + n) 0 9 (by unfold maxLen; omega)
  generalize grownCap w (0 + n) 0 9 = G at *
  have HO : Hid ((w.drew.alloc (.cells (([] : List Value).toArray ++ Builtin.zeroCells (Value.string ByteArray.empty).cells n ++ Builtin.zeroCells (Value.string ByteArray.empty).cells (G - (0 + n))) 9)).ownsRow w.heap.size 9 1 (.slice (some ⟨w.heap.size, 0, none⟩) 0 G) 0 []) :=
    hide (World.ownsRow_made w.drew _ G (Nat.le_refl _) hGm (by simp only [Array.size_append, size_zeroCells, List.size_toArray, List.length_nil]; show 0 + n * 1 + (G - (0 + n)) * 1 = G * 1; omega))
  have HB : Hid (Below w.heap.size w (w.drew.alloc (.cells (([] : List Value).toArray ++ Builtin.zeroCells (Value.string ByteArray.empty).cells n ++ Builtin.zeroCells (Value.string ByteArray.empty).cells (G - (0 + n))) 9))) := hide ((Below.refl _ w).drew.alloc (Nat.le_refl _) _)
  generalize (w.drew.alloc (.cells (([] : List Value).toArray ++ Builtin.zeroCells (Value.string ByteArray.empty).cells n ++ Builtin.zeroCells (Value.string ByteArray.empty).cells (G - (0 + n))) 9)) = W at *
  rw [Nat.zero_add] at hrz hG
  have h1 : ¬ ((n : Int) < 0) := by omega
  have h4 : (n : Int) > 0 := by omega
  clear hold
  go_enter Tryz.func150, Tryz.ntmps150
  go_wp2_with (at_builtin; refine Lib.wpList_append_run _ rfl _ _ _ _ rfl _ _ rfl rfl _ _ (hrz _) ?_)
  go_ret
  exact ⟨_, rfl, HO.out, HB.out⟩
theorem own_slice {e : TypeId} {sz : Nat} {w : World} {n0 n : Nat} {v : Value} {xs : List Value} (h : w.ownsRow n0 e sz v n xs) : ∃ p cap, v = .slice p n cap := by
  rcases h.2 with ⟨rfl, rfl⟩ | ⟨g, cap, cur, rfl, _⟩
  · exact ⟨_, _, rfl⟩
  · exact ⟨_, _, rfl⟩
theorem s_append_nothing {P : Program} {w : World} (base : Nat) (t ty e : TypeId) (i : TypeInfo) (size c : Nat) (ht : P.underlying t = some (.slice e)) (hi : P.info? e = some i)
    (v : Value) (n : Nat) (xs : List Value) (hown : w.ownsRow base e size v n xs) : (Builtin.append_ #[t, t] ty #[v, .slice none 0 c]).run P w = .ok v w := by
  rcases hown.2 with ⟨rfl, rfl⟩ | ⟨g, cap, cur, rfl, _, _, hnc, _⟩
  · simp [Builtin.append_, run_underlying ht, sizeOf, typeInfo, hi, Builtin.lenOf, Builtin.firstCells]
  · simp [Builtin.append_, run_underlying ht, sizeOf, typeInfo, hi, Builtin.lenOf, Builtin.firstCells, hnc, storeCells]
/-- append of what is read, nil or not -/
theorem s_append_read {P : Program} {w : World} {ops : Array Oper} {rest : List Oper} {o : Oper} {a : Act} {Q : Exit → Act → World → Prop} (hgd : o.guard = none) (s x : Operand) (t : TypeId)
    (ho : o.op = .call { callee := .builtin .append, args := #[s, x], argTypes := #[t, t] })
    (base : Nat) (e : TypeId) (i : TypeInfo) (z : Value) (size bytes : Nat) (ht : P.underlying t = some (.slice e)) (hi : P.info? e = some i) (hz : i.zero = some z)
    (hsize : i.size = size) (hby : i.bytes = bytes) (hzs : z.cells.size = size) (hsz : 0 < size)
    (v : Value) (n : Nat) (xs : List Value) (hs : a.eval s = v) (hown : w.ownsRow base e size v n xs)
    (ad : Option Addr) (m c : Nat) (ys : List Value) (hx : a.eval x = .slice ad m c) (hlen : ys.length = m * size) (hnone : ad = none → m = 0) (hsrc : ∀ a0, ad = some a0 → ∀ j u, ys[j]? = some u → w.cell? (a0.add j) = some u) (h1 : ∀ u ∈ ys, u.oneCell' = true)
    (h63 : n + m ≤ maxLen) (hbytes : (n + m) * bytes ≤ 140737488355328) (hbase : base ≤ w.heap.size)
    (h : ∀ v' w', w'.ownsRow base e size v' (n + m) (xs ++ ys) → w.grownBy w' v.ownBlock → wpList P ops Q rest (a.put o.dst v') w') : wpList P ops Q (o :: rest) a w := by
  cases ad with
  | none =>
    obtain rfl := hnone rfl
    obtain rfl : ys = [] := List.length_eq_zero_iff.1 (by rw [hlen, Nat.zero_mul])
    have hrun := s_append_nothing (P := P) (w := w) base t o.type e i size c ht hi v n xs hown
    refine wpList_plain hgd fun K hK => ?_
    unfold Oper.wp
    simp [execOp, ho, resolve, invoke, builtin, hs, hx, hrun, Result.andThen]
    exact hK _ _ (h v w (by rw [Nat.add_zero, List.append_nil]; exact hown) ⟨rfl, rfl, rfl, Nat.le_refl _, fun _ _ _ => rfl⟩)
  | some a0 =>
    refine wpList_append_own _ hgd s x t ho base e i z size bytes ht hi hz hsize hby hzs hsz v n xs hs hown a0 m c ys hx hlen (hsrc a0 rfl) h1 h63 hbytes hbase ?_
    intro v' w' h2 h3 _
    exact h v' w' h2 h3
set_option maxHeartbeats 2000000 in
theorem s_concat {w : World} {a b : Value} {l m : List ByteArray} {g : Nat} (ha : Tx w a l) (hb : Tx w b m) (hl : l.length ≤ 32) (hm : m.length ≤ 32) (h0 : 0 < l.length + m.length) (c0 : w.cell? ⟨g, 0, none⟩ = some a) (c1 : w.cell? ⟨g, 1, none⟩ = some b) :
    Calls Tryz.prog 130 #[.slice (some ⟨g, 0, none⟩) 2 2] w fun e w' => ∃ t', e = .returned t' ∧ w'.ownsRow w.heap.size 9 1 t' (l ++ m).length (tcs (l ++ m)) ∧ Below w.heap.size w w' := by
  obtain ⟨i0, hi0, hz0, hz1, hz2⟩ := info_parts Tryz.infoSt
  have hlt := World.block_lt_of_cell? _ _ c0
  obtain ⟨p, cap, rfl, hn, hc⟩ := tx_src ha
  obtain ⟨q, cbp, rfl, hn', hc'⟩ := tx_src hb
  have HG := hide (fun w1 => s_grow (n := l.length + m.length) h0 (by omega) w1)
  have HC := hide hc
  have HC' := hide hc'
  have HN := hide hn
  have HN' := hide hn'
  clear ha hb hn hc hn' hc'
  go_enter Tryz.func130, Tryz.ntmps130
  go_wp2_with fail
  go_loopw [3, 11] (fun u t wr => w = wr ∧ ((u = .int .i64 0 ∧ t = .int .i64 0) ∨ (u = .int .i64 (l.length : Int) ∧ t = .int .i64 1) ∨ (u = .int .i64 ((l.length + m.length : Nat) : Int) ∧ t = .int .i64 2))) (fun _ t _ => 2 - (intOf t).toNat)
  case atStart => exact ⟨rfl, .inl ⟨rfl, rfl⟩⟩
  case round =>
    obtain ⟨rfl, h | h | h⟩ := hrel
    · obtain ⟨rfl, rfl⟩ := h
      have h1 : ¬ ((l.length : Int) < 0) := by omega
      go_wp2_with fail
      go_roundw
      case rel => exact ⟨trivial, .inr (.inl ⟨by go_num, rfl⟩)⟩
      case measure => simp only [intOf]; decide
    · obtain ⟨rfl, rfl⟩ := h
      have h1 : ¬ ((l.length : Int) + (m.length : Int) < 0) := by omega
      go_wp2_with fail
      go_roundw
      case rel => exact ⟨trivial, .inr (.inr ⟨by go_num, rfl⟩)⟩
      case measure => simp only [intOf]; decide
    · obtain ⟨rfl, rfl⟩ := h
      go_wp2_with fail
      refine (HG.out w).mono ?_
      rintro e w1 ⟨t, rfl, ho, hB⟩
      have HO := hide ho
      have HB := hide hB
      clear ho hB HG
      go_wp2_with fail
      go_loopw [6, 27] (fun u t wx => Hid (Below w.heap.size w wx) ∧ ((t = .int .i64 0 ∧ Hid (wx.ownsRow w.heap.size 9 1 u 0 [])) ∨ (t = .int .i64 1 ∧ Hid (wx.ownsRow w.heap.size 9 1 u l.length (tcs l))) ∨ (t = .int .i64 2 ∧ Hid (wx.ownsRow w.heap.size 9 1 u (l ++ m).length (tcs (l ++ m)))))) (fun _ t _ => 2 - (intOf t).toNat)
      case atStart => exact ⟨HB, .inl ⟨rfl, HO⟩⟩
      case round =>
        clear HO HB
        obtain ⟨HB, h⟩ := hrel
        have d0 := (HB.out.cell (p := ⟨g, 0, none⟩) hlt).trans c0
        have d1 := (HB.out.cell (p := ⟨g, 1, none⟩) hlt).trans c1
        have hsz := HB.out.size
        rcases h with ⟨rfl, HO⟩ | ⟨rfl, HO⟩ | ⟨rfl, HO⟩
        · obtain ⟨pu, cu, rfl⟩ := own_slice HO.out
          have HX : Hid (∀ a0, p = some a0 → ∀ j u, (tcs l)[j]? = some u → wr.cell? (a0.add j) = some u) := hide fun a0 ha j u hu => (HB.out.cell (World.block_lt_of_cell? _ _ (HC.out a0 ha j u hu))).trans (HC.out a0 ha j u hu)
          go_wp2_with (at_builtin; refine s_append_read rfl _ _ 52 rfl w.heap.size 9 i0 (.string ByteArray.empty) 1 16 Tryz.underlying52 hi0 hz0 hz1 hz2 rfl (by decide) (.slice pu 0 cu) 0 [] rfl HO.out p l.length cap (tcs l) rfl (tcs_len l) HN.out HX.out (tcs_ones l) (by unfold maxLen; omega) (by omega) hsz ?_; intro v' w2 hown hgrow; have HO2 := hide hown; have HB2 := hide (HB.out.grown hgrow hsz (fun k hk => (HO.out.lt k hk).1)); clear hown hgrow)
          rw [Nat.zero_add, List.nil_append] at HO2
          go_roundw
          case rel => exact ⟨HB2, .inr (.inl ⟨rfl, HO2⟩)⟩
          case measure => simp only [intOf]; decide
        · obtain ⟨pu, cu, rfl⟩ := own_slice HO.out
          have HX : Hid (∀ a0, q = some a0 → ∀ j u, (tcs m)[j]? = some u → wr.cell? (a0.add j) = some u) := hide fun a0 ha j u hu => (HB.out.cell (World.block_lt_of_cell? _ _ (HC'.out a0 ha j u hu))).trans (HC'.out a0 ha j u hu)
          go_wp2_with (at_builtin; refine s_append_read rfl _ _ 52 rfl w.heap.size 9 i0 (.string ByteArray.empty) 1 16 Tryz.underlying52 hi0 hz0 hz1 hz2 rfl (by decide) (.slice pu l.length cu) l.length (tcs l) rfl HO.out q m.length cbp (tcs m) rfl (tcs_len m) HN'.out HX.out (tcs_ones m) (by unfold maxLen; omega) (by omega) hsz ?_; intro v' w2 hown hgrow; have HO2 := hide hown; have HB2 := hide (HB.out.grown hgrow hsz (fun k hk => (HO.out.lt k hk).1)); clear hown hgrow)
          rw [← tcs_append, ← List.length_append] at HO2
          go_roundw
          case rel => exact ⟨HB2, .inr (.inr ⟨rfl, HO2⟩)⟩
          case measure => simp only [intOf]; decide
        · go_wp2_with fail
          go_ret
          exact ⟨_, rfl, HO.out, HB.out⟩
end Go.Proofs.YtepondcflkledaaGreat.S
end

section
namespace Go.Proofs.YtepondcflkledaaGreat.S
set_option maxRecDepth 20000
open Go.RowKit
open Rc (Ch)
open Q (Rr rr0 nrow fnd grE grL exE exL seE seL hix gb rowR grt xp stl Qm Ft Mv)

/-- what is kept, as cells -/
abbrev kcs (qb : Nat) (r : Int) (p : Nat → Pp) (T : Nat → Value) : Array Value := #[.pointer (some ⟨qb, 0, none⟩), .int .i64 r, .string (p 0).pr, T 0, .string (p 1).pr, T 1, .string (p 2).pr, T 2, .string (p 3).pr, T 3, .string (p 4).pr, T 4, .string (p 5).pr, T 5, .string (p 6).pr, T 6, .string (p 7).pr, T 7]
theorem lt8 {i : Nat} (h : i < 8) : i = 0 ∨ i = 1 ∨ i = 2 ∨ i = 3 ∨ i = 4 ∨ i = 5 ∨ i = 6 ∨ i = 7 := by omega
theorem kcs_pr (qb : Nat) (r : Int) (p : Nat → Pp) (T : Nat → Value) {i : Nat} (h : i < 8) : (kcs qb r p T)[2 + i * 2]? = some (.string (p i).pr) := by
  rcases lt8 h with rfl | rfl | rfl | rfl | rfl | rfl | rfl | rfl <;> rfl
theorem kcs_lg (qb : Nat) (r : Int) (p : Nat → Pp) (T : Nat → Value) {i : Nat} (h : i < 8) : (kcs qb r p T)[2 + i * 2 + 1]? = some (T i) := by
  rcases lt8 h with rfl | rfl | rfl | rfl | rfl | rfl | rfl | rfl <;> rfl
/-- one is another one -/
def upd {α : Type} (f : Nat → α) (i : Nat) (x : α) : Nat → α := fun k => if k = i then x else f k
theorem kcs_set1 (qb : Nat) (r : Int) (p : Nat → Pp) (T : Nat → Value) {i : Nat} (h : i < 8) (t : Value) : (kcs qb r p T).setIfInBounds (2 + i * 2 + 1) t = kcs qb r p (upd T i t) := by
  rcases lt8 h with rfl | rfl | rfl | rfl | rfl | rfl | rfl | rfl <;> rfl
theorem kcs_set0 (qb : Nat) (r : Int) (p : Nat → Pp) (T : Nat → Value) {i : Nat} (h : i < 8) (x : Pp) : (kcs qb r p T).setIfInBounds (2 + i * 2) (.string x.pr) = kcs qb r (upd p i x) T := by
  rcases lt8 h with rfl | rfl | rfl | rfl | rfl | rfl | rfl | rfl <;> rfl
theorem kcs_same (qb : Nat) (r : Int) {p p' : Nat → Pp} (T : Nat → Value) (h : ∀ i, i < 8 → (p i).pr = (p' i).pr) : kcs qb r p T = kcs qb r p' T := by
  unfold kcs
  rw [h 0 (by decide), h 1 (by decide), h 2 (by decide), h 3 (by decide), h 4 (by decide), h 5 (by decide), h 6 (by decide), h 7 (by decide)]
theorem tx_keep {w w' : World} {t : Value} {l : List ByteArray} (h : Tx w t l) (hs : w.heap.size ≤ w'.heap.size) (hk : ∀ g, t.ownBlock = some g → w'.heap[g]? = w.heap[g]?) : Tx w' t l := by
  obtain ⟨p, cap, rfl, h2⟩ := h
  refine ⟨p, cap, rfl, fun h0 => ?_⟩
  obtain ⟨b, off, rfl, hlt, hc⟩ := h2 h0
  exact ⟨b, off, rfl, Nat.lt_of_lt_of_le hlt hs, fun j hj => (World.cell?_of_block (hk b rfl)).trans (hc j hj)⟩
/-- a log's block is there -/
def Tb (w : World) (t : Value) : Prop := ∀ g, t.ownBlock = some g → g < w.heap.size
/-- what is kept, in memory: at kb, its queue at qb with the rows v; T are its logs; O tells which old blocks they may lie in -/
structure Kp (O : Nat → Prop) (base : Nat) (w : World) (kb qb : Nat) (v : Value) (T : Nat → Value) (m : Int) (s : Sx) : Prop where
  blk : w.heap[kb]? = some (.cells (kcs qb s.res s.pa T) 57 (0, 0))
  q : Qm 142 base w qb v m s.L
  low : base ≤ kb
  apt : ¬ Ft qb v kb
  lg : ∀ i, i < 8 → Tx w (T i) (s.pa i).lg
  tb : ∀ i, i < 8 → Tb w (T i)
  ap : ∀ i, i < 8 → ∀ g, (T i).ownBlock = some g → g ≠ kb ∧ ¬ Ft qb v g ∧ O g
section
variable {O : Nat → Prop} {base : Nat} {w : World} {kb qb : Nat} {v : Value} {T : Nat → Value} {m : Int} {s : Sx}
theorem Kp.lt (h : Kp O base w kb qb v T m s) : kb < w.heap.size := lt_of_block h.blk
theorem Kp.c0 (h : Kp O base w kb qb v T m s) : w.cell? ⟨kb, 0, none⟩ = some (.pointer (some ⟨qb, 0, none⟩)) := by have := h.blk; simp [World.cell?, this]
theorem Kp.c1 (h : Kp O base w kb qb v T m s) : w.cell? ⟨kb, 1, none⟩ = some (.int .i64 s.res) := by have := h.blk; simp [World.cell?, this]
theorem Kp.cp (h : Kp O base w kb qb v T m s) {i : Nat} (hi : i < 8) : w.cell? ⟨kb, 2 + i * 2, none⟩ = some (.string (s.pa i).pr) := by
  have := h.blk
  simp only [World.cell?, this]
  exact kcs_pr _ _ _ _ hi
theorem Kp.cl (h : Kp O base w kb qb v T m s) {i : Nat} (hi : i < 8) : w.cell? ⟨kb, 2 + i * 2 + 1, none⟩ = some (T i) := by
  have := h.blk
  simp only [World.cell?, this]
  exact kcs_lg _ _ _ _ hi
theorem Kp.z (h : Kp O base w kb qb v T m s) (k : Nat) : w.frozen? ⟨kb, k, none⟩ = false := by have := h.blk; simp [World.frozen?, this]
theorem Kp.keep {w' : World} (h : Kp O base w kb qb v T m s) (hs : w.heap.size ≤ w'.heap.size) (hk : ∀ g, (g = kb ∨ Ft qb v g ∨ ∃ i, i < 8 ∧ (T i).ownBlock = some g) → w'.heap[g]? = w.heap[g]?) : Kp O base w' kb qb v T m s :=
  ⟨(hk kb (.inl rfl)).trans h.blk, h.q.keep fun g hg => hk g (.inr (.inl hg)), h.low, h.apt, fun i hi => tx_keep (h.lg i hi) hs fun g hg => hk g (.inr (.inr ⟨i, hi, hg⟩)), fun i hi g hg => Nat.lt_of_lt_of_le (h.tb i hi g hg) hs, h.ap⟩
theorem Kp.all_lt (h : Kp O base w kb qb v T m s) : ∀ g, (g = kb ∨ Ft qb v g ∨ ∃ i, i < 8 ∧ (T i).ownBlock = some g) → g < w.heap.size := by
  rintro g (rfl | hg | ⟨i, hi, hg⟩)
  · exact h.lt
  · exact (h.q.ftlt g hg).2
  · exact h.tb i hi g hg
theorem Kp.below {w' : World} (h : Kp O base w kb qb v T m s) (hb : Below w.heap.size w w') : Kp O base w' kb qb v T m s := h.keep hb.size fun g hg => hb.block g (h.all_lt g hg)
theorem Qm.weak {Q0 : Nat} {b : Nat} {L : List Rr} {base' : Nat} (h : Qm Q0 base w b v m L) (hb : base' ≤ base) : Qm Q0 base' w b v m L := by
  refine ⟨h.blk, Nat.le_trans hb h.low, ⟨h.row.1, ?_⟩, h.apt⟩
  rcases h.row.2 with h1 | ⟨g, cap, cur, h1, h2, h3⟩
  · exact .inl h1
  · exact .inr ⟨g, cap, cur, h1, Nat.le_trans hb h2, h3⟩
/-- the queue has moved on -/
theorem Kp.mv {w' : World} {v' : Value} {L' : List Rr} (h : Kp O base w kb qb v T m s) (hm : Mv (Ft qb v) (Ft qb v') w w') (hq : Qm 142 base w' qb v' m L') : Kp O base w' kb qb v' T m ⟨s.res, L', s.P⟩ := by
  have hkb : w'.heap[kb]? = w.heap[kb]? := hm.block kb h.lt h.apt
  refine ⟨hkb.trans h.blk, hq, h.low, fun hf => ?_, fun i hi => tx_keep (h.lg i hi) hm.size fun g hg => hm.block g (h.tb i hi g hg) (h.ap i hi g hg).2.1, fun i hi g hg => Nat.lt_of_lt_of_le (h.tb i hi g hg) hm.size, fun i hi g hg => ?_⟩
  · rcases hm.foot kb hf with h1 | h1
    · exact h.apt h1
    · have := h.lt; omega
  · obtain ⟨h1, h2, h3⟩ := h.ap i hi g hg
    refine ⟨h1, fun hf => ?_, h3⟩
    rcases hm.foot g hf with h4 | h4
    · exact h2 h4
    · have := h.tb i hi g hg; omega
/-- what is reserved is another number -/
theorem Kp.reserve (h : Kp O base w kb qb v T m s) (n : Int) : Kp O base (w.setCell ⟨kb, 1, none⟩ (.int .i64 n)) kb qb v T m ⟨n, s.L, s.P⟩ := by
  have hne : ∀ g, g ≠ kb → (w.setCell ⟨kb, 1, none⟩ (.int .i64 n)).heap[g]? = w.heap[g]? := fun g hg => Below.heap_setCell _ ⟨kb, 1, none⟩ _ g hg
  refine ⟨by rw [cells_set h.blk]; rfl, h.q.keep fun g hg => hne g fun e => h.apt (e ▸ hg), h.low, h.apt, fun i hi => tx_keep (h.lg i hi) (by rw [Q.setCell_size]; exact Nat.le_refl _) fun g hg => hne g (h.ap i hi g hg).1, fun i hi g hg => by rw [Q.setCell_size]; exact h.tb i hi g hg, h.ap⟩
/-- a log is another one -/
theorem Kp.log (h : Kp O base w kb qb v T m s) (hP : s.P.length = 8) {i : Nat} (hi : i < 8) {t : Value} {l : List ByteArray} (ht : Tx w t l) (hb : Tb w t) (ha : ∀ g, t.ownBlock = some g → g ≠ kb ∧ ¬ Ft qb v g ∧ O g) :
    Kp O base (w.setCell ⟨kb, 2 + i * 2 + 1, none⟩ t) kb qb v (upd T i t) m ⟨s.res, s.L, s.P.set i ⟨(s.pa i).pr, l⟩⟩ := by
  have hne : ∀ g, g ≠ kb → (w.setCell ⟨kb, 2 + i * 2 + 1, none⟩ t).heap[g]? = w.heap[g]? := fun g hg => Below.heap_setCell _ ⟨kb, 2 + i * 2 + 1, none⟩ _ g hg
  have hsz : w.heap.size ≤ (w.setCell ⟨kb, 2 + i * 2 + 1, none⟩ t).heap.size := by rw [Q.setCell_size]; exact Nat.le_refl _
  have hpa : ∀ k, Sx.pa ⟨s.res, s.L, s.P.set i ⟨(s.pa i).pr, l⟩⟩ k = if i = k then ⟨(s.pa i).pr, l⟩ else s.pa k := fun k => by
    rw [pa_set]
    by_cases e : i = k
    · rw [if_pos ⟨e, by omega⟩, if_pos e]
    · rw [if_neg (fun x => e x.1), if_neg e]
  refine ⟨?_, h.q.keep fun g hg => hne g fun e => h.apt (e ▸ hg), h.low, h.apt, fun k hk => ?_, fun k hk g hg => ?_, fun k hk g hg => ?_⟩
  · rw [cells_set h.blk, kcs_set1 _ _ _ _ hi, kcs_same (p' := Sx.pa ⟨s.res, s.L, s.P.set i ⟨(s.pa i).pr, l⟩⟩)]
    intro k _
    rw [hpa]; split
    · rename_i e; subst e; rfl
    · rfl
  · rw [hpa]
    unfold upd
    by_cases e : i = k
    · rw [if_pos e, if_pos e.symm]
      exact tx_keep ht hsz fun g hg => hne g (ha g hg).1
    · rw [if_neg e, if_neg fun x => e x.symm]
      exact tx_keep (h.lg k hk) hsz fun g hg => hne g (h.ap k hk g hg).1
  · unfold upd at hg
    split at hg
    · exact Nat.lt_of_lt_of_le (hb g hg) hsz
    · exact Nat.lt_of_lt_of_le (h.tb k hk g hg) hsz
  · unfold upd at hg
    split at hg
    · exact ha g hg
    · exact h.ap k hk g hg
/-- a paper is another one, with an empty log -/
theorem Kp.paper (h : Kp O base w kb qb v T m s) (hP : s.P.length = 8) {i : Nat} (hi : i < 8) (x : ByteArray) :
    Kp O base ((w.setCell ⟨kb, 2 + i * 2, none⟩ (.string x)).setCell ⟨kb, 2 + i * 2 + 1, none⟩ (.slice none 0 0)) kb qb v (upd T i (.slice none 0 0)) m ⟨s.res, s.L, s.P.set i ⟨x, []⟩⟩ := by
  have hne : ∀ g, g ≠ kb → ((w.setCell ⟨kb, 2 + i * 2, none⟩ (.string x)).setCell ⟨kb, 2 + i * 2 + 1, none⟩ (.slice none 0 0)).heap[g]? = w.heap[g]? := fun g hg => (Below.heap_setCell _ ⟨kb, 2 + i * 2 + 1, none⟩ _ g hg).trans (Below.heap_setCell _ ⟨kb, 2 + i * 2, none⟩ _ g hg)
  have hsz : w.heap.size ≤ ((w.setCell ⟨kb, 2 + i * 2, none⟩ (.string x)).setCell ⟨kb, 2 + i * 2 + 1, none⟩ (.slice none 0 0)).heap.size := by rw [Q.setCell_size, Q.setCell_size]; exact Nat.le_refl _
  have hpa : ∀ k, Sx.pa ⟨s.res, s.L, s.P.set i ⟨x, []⟩⟩ k = if i = k then ⟨x, []⟩ else s.pa k := fun k => by
    rw [pa_set]
    by_cases e : i = k
    · rw [if_pos ⟨e, by omega⟩, if_pos e]
    · rw [if_neg (fun x => e x.1), if_neg e]
  refine ⟨?_, h.q.keep fun g hg => hne g fun e => h.apt (e ▸ hg), h.low, h.apt, fun k hk => ?_, fun k hk g hg => ?_, fun k hk g hg => ?_⟩
  · rw [cells_set (cells_set h.blk _ _), kcs_set0 _ _ _ _ hi ⟨x, []⟩, kcs_set1 _ _ _ _ hi, kcs_same (p' := Sx.pa ⟨s.res, s.L, s.P.set i ⟨x, []⟩⟩)]
    intro k _
    rw [hpa]; unfold upd
    by_cases e : i = k
    · rw [if_pos e, if_pos e.symm]
    · rw [if_neg e, if_neg fun x => e x.symm]
  · rw [hpa]
    unfold upd
    by_cases e : i = k
    · rw [if_pos e, if_pos e.symm]
      exact Tx.nil _
    · rw [if_neg e, if_neg fun x => e x.symm]
      exact tx_keep (h.lg k hk) hsz fun g hg => hne g (h.ap k hk g hg).1
  · unfold upd at hg
    split at hg
    · simp [Value.ownBlock] at hg
    · exact Nat.lt_of_lt_of_le (h.tb k hk g hg) hsz
  · unfold upd at hg
    split at hg
    · simp [Value.ownBlock] at hg
    · exact h.ap k hk g hg
end
end Go.Proofs.YtepondcflkledaaGreat.S
end

section
namespace Go.Proofs.YtepondcflkledaaGreat.S
set_option maxRecDepth 20000
open Go.RowKit
open Rc (Ch)
open Q (Rr rr0 nrow fnd grE grL exE exL seE seL hix gb rowR grt xp stl Qm Ft Mv Rs ROk load_any)

inductive NwQ (x : Int) (w : World) (e : Ending) (w' : World) : Prop
  | arg : ¬ (1 ≤ x ∧ x ≤ 8) → e = .returned (.tuple #[.pointer none, .int .i64 1]) → Below w.heap.size w w' → NwQ x w e w'
  | ok (b : Nat) (v : Value) : Q.Ok x [] → e = .returned (.tuple #[.pointer (some ⟨b, 0, none⟩), .int .i64 0]) → Qm 142 w.heap.size w' b v x [] → Below w.heap.size w w' → NwQ x w e w'
set_option maxHeartbeats 1000000 in
theorem snewq_any (w : World) (x : Int) : Calls Tryz.prog 16 #[.int .i64 x] w (NwQ x w) := by
  have HL := hide (load_any (x := x) (cap := 0) (show Rs w none 0 0 [] from ⟨fun h => absurd h (by simp), fun i hi => absurd hi (by simp)⟩))
  simp only [List.length_nil] at HL
  go_enter Tryz.func16, Tryz.ntmps16
  go_wp2_with fail
  refine HL.out.mono ?_
  rintro e w1 (⟨h1, rfl, h2⟩ | ⟨_, h1, _⟩ | ⟨b, v, h1, rfl, h2, h3⟩)
  · go_wp2_with fail
    go_ret2
    exact .arg h1 rfl h2
  · exact absurd (ROk.nil x) h1
  · go_wp2_with fail
    go_ret2
    exact .ok b v h1 rfl h2 h3

/-- a state in memory: b has what is kept; but for b none of its blocks is one of N -/
structure Sd (N : Nat → Prop) (w : World) (b : Nat) (m : Int) (s : Sx) : Prop where
  ex : ∃ kb qb v T, w.heap[b]? = some (.cells #[.pointer (some ⟨kb, 0, none⟩)] 59 (0, 0)) ∧ Kp (fun g => ¬ N g) 0 w kb qb v T m s ∧ ¬ N kb ∧ ∀ g, Ft qb v g → ¬ N g
theorem Sd.lt {N : Nat → Prop} {w : World} {b : Nat} {m : Int} {s : Sx} (h : Sd N w b m s) : b < w.heap.size := by
  obtain ⟨_, _, _, _, h1, _⟩ := h.ex
  exact lt_of_block h1
theorem Kp.weak {O O' : Nat → Prop} {base base' : Nat} {w : World} {kb qb : Nat} {v : Value} {T : Nat → Value} {m : Int} {s : Sx} (h : Kp O base w kb qb v T m s) (hb : base' ≤ base) (hO : ∀ i, i < 8 → ∀ g, (T i).ownBlock = some g → O g → O' g) : Kp O' base' w kb qb v T m s :=
  ⟨h.blk, Qm.weak h.q hb, Nat.le_trans hb h.low, h.apt, h.lg, h.tb, fun i hi g hg => ⟨(h.ap i hi g hg).1, (h.ap i hi g hg).2.1, hO i hi g hg (h.ap i hi g hg).2.2⟩⟩
theorem Sd.more {N N' : Nat → Prop} {w : World} {b : Nat} {m : Int} {s : Sx} (h : Sd N w b m s) (hx : ∀ g, N' g → N g ∨ w.heap.size ≤ g) : Sd N' w b m s := by
  obtain ⟨kb, qb, v, T, h1, h2, h3, h4⟩ := h.ex
  have hn : ∀ g, g < w.heap.size → ¬ N g → ¬ N' g := fun g hg hn hn' => by rcases hx g hn' with e | e; exact hn e; omega
  exact ⟨kb, qb, v, T, h1, h2.weak (Nat.le_refl _) fun i hi g hg hn' => hn g (h2.tb i hi g hg) hn', hn kb h2.lt h3, fun g hg => hn g (h2.q.ftlt g hg).2 (h4 g hg)⟩
theorem Sd.keep {N : Nat → Prop} {w w' : World} {b : Nat} {m : Int} {s : Sx} (h : Sd N w b m s) (hs : w.heap.size ≤ w'.heap.size) (hk : ∀ g, g < w.heap.size → (g = b ∨ ¬ N g) → w'.heap[g]? = w.heap[g]?) : Sd N w' b m s := by
  obtain ⟨kb, qb, v, T, h1, h2, h3, h4⟩ := h.ex
  refine ⟨kb, qb, v, T, (hk b (lt_of_block h1) (.inl rfl)).trans h1, h2.keep hs fun g hg => hk g (h2.all_lt g hg) (.inr ?_), h3, h4⟩
  rcases hg with rfl | hg | ⟨i, hi, hg⟩
  · exact h3
  · exact h4 g hg
  · exact (h2.ap i hi g hg).2.2
theorem Sd.below {N : Nat → Prop} {w w' : World} {b : Nat} {m : Int} {s : Sx} (h : Sd N w b m s) (hb : Below w.heap.size w w') : Sd N w' b m s := h.keep hb.size fun g hg _ => hb.block g hg
theorem Sd.mv {N F : Nat → Prop} {w w' : World} {b : Nat} {m : Int} {s : Sx} (h : Sd N w b m s) (hm : Mv F F w w') (hb : ¬ F b) (hF : ∀ g, F g → N g) : Sd N w' b m s := h.keep hm.size fun g hg hn => hm.block g hg fun hf => by
  rcases hn with rfl | hn
  · exact hb hf
  · exact hn (hF g hf)
inductive NwP (x : Int) (w : World) (e : Ending) (w' : World) : Prop
  | arg : ¬ (1 ≤ x ∧ x ≤ 8) → e = .returned (.tuple #[.pointer none, .int .i64 1]) → Below w.heap.size w w' → NwP x w e w'
  | ok (b : Nat) : (1 ≤ x ∧ x ≤ 8) → Q.Ok x [] → e = .returned (.tuple #[.pointer (some ⟨b, 0, none⟩), .int .i64 0]) → w.heap.size ≤ b → (∀ N : Nat → Prop, (∀ g, N g → g < w.heap.size ∨ g = b) → Sd N w' b x sx0) → Below w.heap.size w w' → NwP x w e w'
theorem sd_new {w w1 : World} {qb : Nat} {v : Value} {x : Int} (hq : Qm 142 w.heap.size w1 qb v x []) (hB : Below w.heap.size w w1) (N : Nat → Prop) (hN : ∀ g, N g → g < w.heap.size ∨ g = w1.heap.size + 1) :
    Sd N ((w1.alloc (.cells (kcs qb 0 (fun _ => ⟨ByteArray.empty, []⟩) (fun _ => .slice none 0 0)) 57)).alloc (.cells #[.pointer (some ⟨w1.heap.size, 0, none⟩)] 59)) (w1.heap.size + 1) x sx0 := by
  have hs := World.size_alloc w1 (.cells (kcs qb 0 (fun _ => ⟨ByteArray.empty, []⟩) (fun _ => .slice none 0 0)) 57)
  have hnew := heap_alloc_new w1 (.cells (kcs qb 0 (fun _ => ⟨ByteArray.empty, []⟩) (fun _ => .slice none 0 0)) 57)
  have hb1 := below_alloc w1 (.cells (kcs qb 0 (fun _ => ⟨ByteArray.empty, []⟩) (fun _ => .slice none 0 0)) 57)
  generalize hw2 : w1.alloc (.cells (kcs qb 0 (fun _ => ⟨ByteArray.empty, []⟩) (fun _ => .slice none 0 0)) 57) = w2 at *
  have hb2 := below_alloc w2 (.cells #[.pointer (some ⟨w1.heap.size, 0, none⟩)] 59)
  have hn2 := heap_alloc_new w2 (.cells #[.pointer (some ⟨w1.heap.size, 0, none⟩)] 59)
  rw [hs] at hn2
  have hft : ∀ g, Ft qb v g → w.heap.size ≤ g ∧ g < w1.heap.size := hq.ftlt
  have hsz := hB.size
  refine ⟨w1.heap.size, qb, v, fun _ => .slice none 0 0, hn2, ⟨?_, Qm.weak ((hq.below hb1).below hb2) (Nat.zero_le _), Nat.zero_le _, fun hf => by have := (hft _ hf).2; omega, fun i hi => ?_, fun i _ g hg => by simp [Value.ownBlock] at hg, fun i _ g hg => by simp [Value.ownBlock] at hg⟩, fun hn => by rcases hN _ hn with e | e <;> omega, fun g hg hn => by have := hft g hg; rcases hN _ hn with e | e <;> omega⟩
  · exact (hb2.block _ (by omega)).trans hnew
  · have : (sx0.pa i).lg = [] := by rcases lt8 hi with rfl | rfl | rfl | rfl | rfl | rfl | rfl | rfl <;> rfl
    rw [this]; exact Tx.nil _
set_option maxHeartbeats 1000000 in
theorem new_any (w : World) (x : Int) : Calls Tryz.prog 6 #[.int .i64 x] w (NwP x w) := by
  have HL := hide (snewq_any w x)
  go_enter Tryz.func6, Tryz.ntmps6
  go_wp2_with fail
  refine HL.out.mono ?_
  rintro e w1 (⟨h1, rfl, h2⟩ | ⟨qb, v, h1, rfl, h2, h3⟩)
  · go_wp2_with fail
    go_ret2
    exact .arg h1 rfl h2
  · have HQ := hide h2
    have HB := hide h3
    have HK := hide h1
    clear h1 h2 h3 HL
    go_wp2_with fail
    go_ret2
    have hsz := HB.out.size
    refine .ok (w1.heap.size + 1) ⟨HK.out.m1, HK.out.m8⟩ HK.out rfl (by omega) (sd_new HQ.out HB.out) ((HB.out.alloc hsz _).alloc (by rw [World.size_alloc]; omega) _)
end Go.Proofs.YtepondcflkledaaGreat.S
end
