import Derived.Test.YtnhibcadenmglaaDkYa
import Derived.Test.YtnhibcadenmglaaDkQ
import Derived.Laws.AppendOwnNone
import Derived.Deep.DeepCutAuto
namespace Go.Proofs.Ytnhibcadenmglaa
open Go.RowKit

theorem run_append_nothing {P : Program} {w : World} (base : Nat) (t ty e : TypeId) (i : TypeInfo) (size c : Nat) (ht : P.underlying t = some (.slice e)) (hi : P.info? e = some i)
    (v : Value) (n : Nat) (xs : List Value) (hown : w.ownsRow base e size v n xs) : (Builtin.append_ #[t, t] ty #[v, .slice none 0 c]).run P w = .ok v w := by
  rcases hown.2 with ⟨rfl, rfl⟩ | ⟨g, cap, cur, rfl, _, _, hnc, _⟩
  · simp [Builtin.append_, run_underlying ht, sizeOf, typeInfo, hi, Builtin.lenOf, Builtin.firstCells]
  · simp [Builtin.append_, run_underlying ht, sizeOf, typeInfo, hi, Builtin.lenOf, Builtin.firstCells, hnc, storeCells]
/-- append of what is read, nil or not -/
theorem wpList_append_read {P : Program} {w : World} {ops : Array Oper} {rest : List Oper} {o : Oper} {a : Act} {Q : Exit → Act → World → Prop} (hgd : o.guard = none) (s x : Operand) (t : TypeId)
    (ho : o.op = .call { callee := .builtin .append, args := #[s, x], argTypes := #[t, t] })
    (base : Nat) (e : TypeId) (i : TypeInfo) (z : Value) (size bytes : Nat) (ht : P.underlying t = some (.slice e)) (hi : P.info? e = some i) (hz : i.zero = some z)
    (hsize : i.size = size) (hby : i.bytes = bytes) (hzs : z.cells.size = size) (hsz : 0 < size)
    (v : Value) (n : Nat) (xs : List Value) (hs : a.eval s = v) (hown : w.ownsRow base e size v n xs)
    (ad : Option Addr) (m c : Nat) (ys : List Value) (hx : a.eval x = .slice ad m c) (hlen : ys.length = m * size) (hnone : ad = none → m = 0) (hsrc : ∀ a0, ad = some a0 → ∀ j u, ys[j]? = some u → w.cell? (a0.add j) = some u) (h1 : ∀ u ∈ ys, u.oneCell' = true)
    (h63 : n + m ≤ maxLen) (hbytes : (n + m) * bytes ≤ 140737488355328) (hbase : base ≤ w.heap.size)
    (h : ∀ v' w', w'.ownsRow base e size v' (n + m) (xs ++ ys) → w.grownBy w' v.ownBlock → wpList P ops Q rest (a.put o.dst v') w') : wpList P ops Q (o :: rest) a w := by
  cases ad with
  | none =>
    obtain rfl := hnone rfl
    obtain rfl : ys = [] := List.length_eq_zero_iff.1 (by rw [hlen, Nat.zero_mul])
    have hrun := run_append_nothing (P := P) (w := w) base t o.type e i size c ht hi v n xs hown
    refine wpList_plain hgd fun K hK => ?_
    unfold Oper.wp
    simp [execOp, ho, resolve, invoke, builtin, hs, hx, hrun, Result.andThen]
    exact hK _ _ (h v w (by rw [Nat.add_zero, List.append_nil]; exact hown) ⟨rfl, rfl, rfl, Nat.le_refl _, fun _ _ _ => rfl⟩)
  | some a0 =>
    refine wpList_append_own _ hgd s x t ho base e i z size bytes ht hi hz hsize hby hzs hsz v n xs hs hown a0 m c ys hx hlen (hsrc a0 rfl) h1 h63 hbytes hbase ?_
    intro v' w' h2 h3 _
    exact h v' w' h2 h3
theorem Rs.src {w : World} {ad : Option Addr} {ab ao : Nat} {l : List ByteArray} (h : Rs w ad ab ao l) : ∀ a0, ad = some a0 → ∀ j u, (l.map Value.string)[j]? = some u → w.cell? (a0.add j) = some u := by
  intro a0 ha j u hu
  rw [List.getElem?_map] at hu
  by_cases hj : j < l.length
  · rw [List.getElem?_eq_getElem hj] at hu
    simp only [Option.map_some, Option.some.injEq] at hu
    have e := h.at_ (by omega)
    rw [ha] at e
    injection e with e
    subst e; subst hu
    rw [Addr.add_lit]
    exact h.cell j hj
  · rw [List.getElem?_eq_none (by omega)] at hu; cases hu
theorem Rs.none {w : World} {ad : Option Addr} {ab ao : Nat} {l : List ByteArray} (h : Rs w ad ab ao l) : ad = Option.none → l.length = 0 := fun e => by
  rcases Nat.eq_zero_or_pos l.length with h0 | h0
  · exact h0
  · have := h.at_ h0; rw [e] at this; cases this
theorem Rw.src {w : World} {ad : Option Addr} {ab ao : Nat} {l : List Wr} (h : Rw w ad ab ao l) : ∀ a0, ad = some a0 → ∀ j u, (wcs l)[j]? = some u → w.cell? (a0.add j) = some u := by
  intro a0 ha j u hu
  by_cases hj : j < l.length * 2
  · have e := h.at_ (by omega)
    rw [ha] at e
    injection e with e
    subst e
    rw [Addr.add_lit]
    obtain ⟨i, k, hk, rfl⟩ : ∃ i k, k < 2 ∧ j = i * 2 + k := ⟨j / 2, j % 2, Nat.mod_lt _ (by decide), by omega⟩
    have hi : i < l.length := by omega
    rw [wcs_get l i k hi hk] at hu
    match k, hk with
    | 0, _ => simp [Wr.cs] at hu; subst hu; exact h.sec i hi
    | 1, _ => simp [Wr.cs] at hu; subst hu; rw [← Nat.add_assoc]; exact h.data i hi
  · rw [List.getElem?_eq_none (by rw [wcs_len]; omega)] at hu; cases hu
theorem Rw.none {w : World} {ad : Option Addr} {ab ao : Nat} {l : List Wr} (h : Rw w ad ab ao l) : ad = Option.none → l.length = 0 := fun e => by
  rcases Nat.eq_zero_or_pos l.length with h0 | h0
  · exact h0
  · have := h.at_ h0; rw [e] at this; cases this
theorem strs_one (S : List ByteArray) : ∀ u ∈ S.map Value.string, u.oneCell' = true := by
  intro u hu
  obtain ⟨s, _, rfl⟩ := List.mem_map.1 hu
  rfl
theorem map_set_str (S : List ByteArray) (k : Nat) (d : ByteArray) : (S.map Value.string).set k (.string d) = (S.set k d).map Value.string := by rw [List.map_set]

set_option maxHeartbeats 1000000 in
set_option maxRecDepth 8000 in
theorem laid_any {w : World} {ad : Option Addr} {ab ao cap : Nat} {l : List ByteArray} {x : Int} {data : ByteArray} {b : Nat} (h : Rs w ad ab ao l) (h8 : A128 l) (hl : l.length ≤ 8796093021952) (hx : 0 ≤ x ∧ x < (l.length : Int)) (hd : data.size = 128) (hb : b ≤ 128) :
    Calls Try.prog 39 #[.slice ad l.length cap, .int .i64 x, .string data, .int .i64 (b : Int)] w fun e w' => ∃ ad' cap' ab', e = .returned (.slice ad' l.length cap') ∧ Rs w' ad' ab' 0 (layS l x.toNat (data.extract 0 b)) ∧ w.heap.size ≤ ab' ∧ Below w.heap.size w w' := by
  obtain ⟨iS, hiS, zS0, zS1, zS2⟩ := info_parts Try.infoS
  obtain ⟨k, rfl⟩ : ∃ k : Nat, x = (k : Int) := ⟨x.toNat, by omega⟩
  have hk : k < l.length := by omega
  rw [Int.toNat_natCast]
  have ea := h.at_ (by omega)
  subst ea
  have hsk := h8.get hk
  have hly : layS l k (data.extract 0 b) = l.set k (data.extract 0 b ++ (l[k]).extract b 128) := by
    unfold layS laid
    rw [List.getD_eq_getElem?_getD, List.getElem?_eq_getElem hk, Option.getD_some, hsk, ext_size, hd, Nat.min_eq_left hb]
  rw [hly]
  have KC : Hid (∀ w1, Below w.heap.size w w1 → w1.cell? ⟨ab, ao + k, none⟩ = some (.string l[k])) := fun w1 hb => (h.below hb).cell k hk
  have H := hide h
  generalize l[k] = s at *
  clear h hly hx
  have hbI : (b : Int) ≤ 128 := by omega
  have hb0 : (0 : Int) ≤ (b : Int) := by omega
  have hkI : (k : Int) < (l.length : Int) := by omega
  go_enter Try.func39, Try.ntmps39
  go_upto_region 2 with (at_builtin; refine wpList_append_read rfl _ _ 35 rfl w.heap.size 9 iS (.string ByteArray.empty) 1 16 Try.underlying35 hiS zS0 zS1 zS2 rfl (by decide) (.slice (some ⟨w.heap.size, 0, none⟩) 0 0) 0 [] rfl (World.ownsRow_made w #[] 0 (Nat.le_refl _) (by decide) rfl) (some ⟨ab, ao, none⟩) l.length cap (l.map .string) rfl (by rw [List.length_map, Nat.mul_one]) (fun e => by cases e) (fun a0 ha j u hu => Lib.cell?_alloc_some _ (H.out.src a0 ha j u hu)) (strs_one _) (by unfold maxLen; omega) (by omega) (by rw [World.size_alloc]; omega) ?_; intro v7 w7 hown7 hgrow7)
  rw [Nat.zero_add, List.nil_append] at hown7
  have hb7 : Below w.heap.size w w7 := ((Below.refl _ w).alloc (Nat.le_refl _) _).grown hgrow7 (by rw [World.size_alloc]; omega) (fun k hk => by simp only [Value.ownBlock] at hk; injection hk with hk; omega)
  obtain ⟨g, c7, rfl, hgl⟩ : ∃ g c, v7 = .slice (some ⟨g, 0, none⟩) l.length c ∧ w.heap.size ≤ g := by
    rcases own_form hown7 with ⟨_, h0⟩ | ⟨g, c, rfl, _⟩
    · omega
    · exact ⟨g, c, rfl, (hown7.lt g rfl).1⟩
  have hab : ab < w.heap.size := H.out.lt (by omega)
  have hne : ab ≠ g := by omega
  have hne' : g ≠ ab := by omega
  have c0 := KC.out w7 hb7
  have e1 := hown7.cellAt k (by omega)
  rw [List.getElem?_eq_getElem (by rw [List.length_map]; exact hk)] at e1
  obtain ⟨ya, e1'⟩ : ∃ y, w7.cell? ⟨g, k, none⟩ = some y := ⟨_, e1⟩
  have e2 := hown7.frozenAt k
  have hst := (hown7.stored k (.string (data.extract 0 b ++ s.extract b 128))).1
  rw [map_set_str] at hst
  have HST := hide hst
  have HB7 := hide hb7
  have hcat : (data.extract 0 b).size + (s.extract b 128).size ≤ 9223372036854775807 := by simp; omega
  clear hown7 hgrow7 hb7 hst e1
  go_region_held3 (fun w' => w'.cell? ⟨ab, ao + k, none⟩ = some (.string s)) (go_keep) (fail)
  go_wp2
  go_ret
  obtain ⟨ab', hr⟩ := (Rs.own HST.out).2
  have eb := hr.at_ (by rw [List.length_set]; omega)
  injection eb with eb
  injection eb with eb
  subst eb
  have hB := (show Below w.heap.size w (w7.setCell ⟨g, k, none⟩ (.string (data.extract 0 b ++ s.extract b 128))) from HB7.out.setCell hgl _)
  exact ⟨_, _, _, rfl, hr.keep (fun _ => rfl), hgl, hB.os, hB.tape, hB.output, hB.size, hB.block⟩
end Go.Proofs.Ytnhibcadenmglaa
