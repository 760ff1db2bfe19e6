import Derived.Test.YtcadelkinbdfhaaMgAQ
import Derived.Laws.AppendOwnNone
import Derived.Deep.SlicePairs

section
namespace Go.Proofs.Ytcadelkinbdfhaa
open Go.RowKit
open Rc (L V Ch)

/-- a row of changes that an append takes -/
def Src (w : World) (v : Value) (vals : List (Ch × Value)) : Prop := (v = .slice none 0 0 ∧ vals = []) ∨ ∃ a cap, v = .slice (some a) vals.length cap ∧ ∀ j u, (flatV vals)[j]? = some u → w.cell? (a.add j) = some u
theorem Src.below {w w' : World} {v : Value} {vals : List (Ch × Value)} (h : Src w v vals) (hb : Below w.heap.size w w') : Src w' v vals := by
  rcases h with h | ⟨a, cap, h1, h2⟩
  · exact .inl h
  · exact .inr ⟨a, cap, h1, fun j u hj => (hb.cell (p := a.add j) (World.block_lt_of_cell? _ _ (h2 j u hj))).trans (h2 j u hj)⟩
theorem flatV_one (vals : List (Ch × Value)) (h : ∀ x ∈ vals, x.2.oneCell' = true) : ∀ u ∈ flatV vals, u.oneCell' = true := by
  intro u hu
  obtain ⟨x, hx, hu⟩ := List.mem_flatMap.1 hu
  simp only [chC, List.mem_cons, List.not_mem_nil, or_false] at hu
  rcases hu with rfl | rfl | rfl | rfl | rfl | rfl | rfl | rfl | rfl | rfl
  all_goals first | rfl | exact h x hx
theorem flatV_app (a b : List (Ch × Value)) : flatV (a ++ b) = flatV a ++ flatV b := by simp [flatV]
/-- the texts of a row -/
def Txs (w : World) (vals : List (Ch × Value)) : Prop := ∀ x ∈ vals, Tx w x.2 x.1.tx ∧ x.1.tx.length ≤ 140737488351232 ∧ x.1.rb < 18446744073709551616
theorem Txs.below {w w' : World} {vals : List (Ch × Value)} (h : Txs w vals) (hb : Below w.heap.size w w') : Txs w' vals := fun x hx => ⟨(h x hx).1.below hb (Nat.le_refl _), (h x hx).2⟩
theorem Txs.one {w : World} {vals : List (Ch × Value)} (h : Txs w vals) : ∀ x ∈ vals, x.2.oneCell' = true := fun x hx => by
  obtain ⟨p, cap, e, _⟩ := (h x hx).1.form
  rw [e]; rfl
theorem Rw.src {w : World} {v : Value} {l : List Ch} (h : Rw w v l) (hn : ∀ cap, v = .slice none l.length cap → cap = 0) : ∃ vals : List (Ch × Value), vals.map Prod.fst = l ∧ Src w v vals ∧ Txs w vals := by
  obtain ⟨p, cap, hv, h2⟩ := h
  by_cases h0 : 0 < l.length
  · obtain ⟨b, off, hp, hlt, hx⟩ := h2 h0
    have hI : Inhabited Value := ⟨.bool true⟩
    obtain ⟨T, hT⟩ := Go.Deep.choose_lt hx
    have hl : ((List.range l.length).map fun j => (l[j]!, T j)).length = l.length := by simp
    refine ⟨(List.range l.length).map fun j => (l[j]!, T j), ?_, .inr ⟨⟨b, off, none⟩, cap, by rw [hl, hv, hp], fun k u hk => ?_⟩, fun x hx' => ?_⟩
    · rw [List.map_map]
      apply List.ext_getElem
      · simp
      · intro i h1 h3
        simp at h1
        simp
        rw [List.getElem?_eq_getElem h1]; rfl
    · have hk10 : k < l.length * 10 := by
        have := (List.getElem?_eq_some_iff.1 hk).1
        rw [flatV_len, hl] at this
        exact this
      have e := flatV_get (vals := (List.range l.length).map fun j => (l[j]!, T j)) (j := k / 10) (i := k % 10) (by rw [hl]; omega) (Nat.mod_lt _ (by decide))
      rw [show k / 10 * 10 + k % 10 = k by omega, hk] at e
      have := (hT (k / 10) (by omega)).2.2.2 (k % 10) u (by rw [e]; simp)
      rw [Addr.add_lit, show off + k = off + k / 10 * 10 + k % 10 by omega]
      exact this
    · obtain ⟨j, hj, rfl⟩ := List.mem_map.1 hx'
      have hj' := List.mem_range.1 hj
      exact ⟨(hT j hj').1, (hT j hj').2.1, (hT j hj').2.2.1⟩
  · have hl : l = [] := List.length_eq_zero_iff.1 (by omega)
    subst hl
    refine ⟨[], rfl, ?_, fun x hx => by cases hx⟩
    cases p with
    | none => exact .inl ⟨by rw [hv, hn cap hv]; rfl, rfl⟩
    | some a => exact .inr ⟨a, cap, hv, fun j u hj => by simp [flatV] at hj⟩
theorem Rw.of_own {w : World} {B : Nat} {v : Value} {vals : List (Ch × Value)} (h : w.ownsRow B 29 10 v vals.length (flatV vals)) (ht : Txs w vals) : Rw w v (vals.map Prod.fst) := by
  have hl : (vals.map Prod.fst).length = vals.length := by simp
  rcases h.2 with ⟨rfl, hn⟩ | ⟨g, cap, cur, rfl, hb, hg, hc, hm, hs, htt⟩
  · obtain rfl := List.length_eq_zero_iff.1 hn
    exact ⟨none, 0, rfl, fun h => absurd h (by simp)⟩
  · refine ⟨some ⟨g, 0, none⟩, cap, by rw [hl], fun _ => ⟨g, 0, rfl, lt_of_block hg, fun j hj => ?_⟩⟩
    rw [hl] at hj
    have e : (vals.map Prod.fst)[j]! = (vals[j]).1 := by rw [getElem!_pos _ j (by rw [hl]; exact hj)]; simp
    have hx := ht _ (List.getElem_mem hj)
    rw [e]
    refine ⟨(vals[j]).2, hx.1, hx.2.1, hx.2.2, fun i u hi => ?_⟩
    have hi10 : i < 10 := by
      have := (Array.getElem?_eq_some_iff.mp hi).1
      simpa [chC] using this
    have := h.cells (g := g) rfl (j * 10 + i) u (by rw [flatV_get hj hi10]; exact hi)
    rw [Addr.add_lit, Nat.zero_add] at this
    rw [Nat.zero_add]
    exact this
/-- an append of such a row -/
theorem wpList_append_src {P : Program} {w : World} {ops : Array Oper} {rest : List Oper} {o : Oper} {a : Act} {Q : Exit → Act → World → Prop} (hgd : o.guard = none) (s x : Operand) (t : TypeId)
    (ho : o.op = .call { callee := .builtin .append, args := #[s, x], argTypes := #[t, t] }) (base : Nat) (e : TypeId) (i : TypeInfo) (z : Value) (bytes : Nat) (ht : P.underlying t = some (.slice e)) (hi : P.info? e = some i) (hz : i.zero = some z)
    (hsize : i.size = 10) (hby : i.bytes = bytes) (hzs : z.cells.size = 10) (v : Value) (n : Nat) (xs : List Value) (hs : a.eval s = v) (hown : w.ownsRow base e 10 v n xs) (vs : Value) (vals : List (Ch × Value)) (hx : a.eval x = vs) (hsrc : Src w vs vals) (hT : Txs w vals)
    (h63 : n + vals.length ≤ maxLen) (hbytes : (n + vals.length) * bytes ≤ 140737488355328) (hbase : base ≤ w.heap.size)
    (h : ∀ v' w', w'.ownsRow base e 10 v' (n + vals.length) (xs ++ flatV vals) → w.grownBy w' v.ownBlock → wpList P ops Q rest (a.put o.dst v') w') : wpList P ops Q (o :: rest) a w := by
  rcases hsrc with ⟨rfl, rfl⟩ | ⟨ad, cap, rfl, hc⟩
  · refine wpList_append_own_none hgd s x t ho base e i 10 ht hi v n xs hs hown hx (h v w (by simpa [flatV] using hown) ⟨rfl, rfl, rfl, Nat.le_refl _, fun _ _ _ => rfl⟩)
  · exact wpList_append_own w hgd s x t ho base e i z 10 bytes ht hi hz hsize hby hzs (by decide) v n xs hs hown ad vals.length cap (flatV vals) hx (flatV_len vals) hc (flatV_one vals hT.one) h63 hbytes hbase fun v' w' h1 h2 _ => h v' w' h1 h2
end Go.Proofs.Ytcadelkinbdfhaa
end

section
namespace Go.Proofs.Ytcadelkinbdfhaa
open Go.RowKit
open Rc (L V Ch)

theorem own_sliceJ {w : World} {B n size : Nat} {e : TypeId} {v : Value} {xs : List Value} (h : w.ownsRow B e size v n xs) : ∃ p cap, v = .slice p n cap := by
  rcases h.2 with ⟨rfl, hn⟩ | ⟨g, cap, cur, rfl, _⟩
  · exact ⟨none, 0, by rw [hn]⟩
  · exact ⟨_, _, rfl⟩
theorem grownJ {w w' : World} {r : Option Nat} (h : w.grownBy w' r) {B : Nat} (hB : B ≤ w.heap.size) (hr : ∀ k, r = some k → B ≤ k) : Below B w w' :=
  ⟨h.os, h.tape, h.output, h.size, fun k hk => h.block k (by omega) (fun e => absurd (hr k e.symm) (by omega))⟩
set_option maxHeartbeats 2000000 in
set_option maxRecDepth 8000 in
theorem recordJoins_walk {w : World} {vl vm : Value} {l m : List Ch} (hl : Rw w vl l) (hm : Rw w vm m) (nl : ∀ cap, vl = .slice none l.length cap → cap = 0) (nm : ∀ cap, vm = .slice none m.length cap → cap = 0) (hll : l.length ≤ 1048576) (hml : m.length ≤ 1048576) :
    Calls Try.prog 5 #[vl, vm] w fun e w' => e = .returned (.bool true) ∧ Below w.heap.size w w' := by
  obtain ⟨iC, hiC, zC0, zC1, zC2⟩ := info_parts Try.infoC
  obtain ⟨xl, hxl, hSl, hTl⟩ := hl.src nl
  obtain ⟨xm, hxm, hSm, hTm⟩ := hm.src nm
  have hxll : xl.length = l.length := by rw [← hxl]; simp
  have hxml : xm.length = m.length := by rw [← hxm]; simp
  have HLN := hide (And.intro hxll hxml)
  have hxl1 : xl.length ≤ 1048576 := by omega
  have hxm1 : xm.length ≤ 1048576 := by omega
  clear hxll hxml
  have hpl : ∃ p c, vl = .slice p l.length c := by obtain ⟨p, c, h, _⟩ := hl.form; exact ⟨p, c, h⟩
  have hpm : ∃ p c, vm = .slice p m.length c := by obtain ⟨p, c, h, _⟩ := hm.form; exact ⟨p, c, h⟩
  have HL := hide hl
  have HM := hide hm
  have HSl := hide hSl
  have HSm := hide hSm
  have HTl := hide hTl
  have HTm := hide hTm
  have HXl := hide hxl
  have HXm := hide hxm
  obtain ⟨pl, cl, hpl⟩ := hpl
  obtain ⟨pm, cm, hpm⟩ := hpm
  subst hpl hpm
  clear hl hm hSl hSm hTl hTm hxl hxm nl nm
  have HE1 := hide (encode_any HL.out)
  go_enter Try.func5, Try.ntmps5
  go_wp2_with fail
  refine HE1.out.mono ?_
  rintro e w1 ⟨rfl, hB1⟩
  have HB1 := hide hB1
  have HE2 := hide (encode_any (HM.out.below hB1 (Nat.le_refl _)))
  clear hB1 HE1
  go_wp2_with fail
  refine HE2.out.mono ?_
  rintro e w2 ⟨rfl, hB2⟩
  have hs1 := HB1.out.size
  have hB2' : Below w.heap.size w w2 := HB1.out.trans (hB2.mono hs1)
  have HB2 := hide hB2'
  have hs2 := hB2'.size
  clear hB2 hB2' HE2
  have HR0 : Hid ((w2.alloc (.cells #[] 29)).ownsRow w.heap.size 29 10 (.slice (some ⟨w2.heap.size, 0, none⟩) 0 0) 0 []) := hide (World.ownsRow_made w2 #[] 0 hs2 (by decide) rfl)
  have HBa : Hid (Below w.heap.size w (w2.alloc (.cells #[] 29))) := hide (HB2.out.alloc hs2 _)
  go_upto_region 4 with (first
    | (at_builtin; refine wpList_append_src rfl _ _ 22 rfl w.heap.size 29 iC (.agg (chC (Rc.zC 0) (.slice none 0 0))) 104 Try.underlying22 hiC zC0 zC1 zC2 rfl (.slice (some ⟨w2.heap.size, 0, none⟩) 0 0) 0 [] rfl HR0.out (.slice pl l.length cl) xl rfl (HSl.out.below HBa.out) (HTl.out.below HBa.out) (by unfold maxLen; omega) (by omega) HBa.out.size ?_; intro v3 w3 hown3 hgrow3; have HO3 := hide hown3; have HB3 := hide (HBa.out.trans (grownJ hgrow3 HBa.out.size (fun k hk => by have hk : w2.heap.size = k := Option.some.inj hk; omega))); have HG3 : Hid (∀ k, v3.ownBlock = some k → w.heap.size ≤ k) := hide (fun k hk => (hown3.lt k hk).1); clear hown3 hgrow3)
    | (at_builtin; refine wpList_append_src rfl _ _ 22 rfl w.heap.size 29 iC (.agg (chC (Rc.zC 0) (.slice none 0 0))) 104 Try.underlying22 hiC zC0 zC1 zC2 rfl v3 (0 + xl.length) ([] ++ flatV xl) rfl HO3.out (.slice pm m.length cm) xm rfl (HSm.out.below HB3.out) (HTm.out.below HB3.out) (by unfold maxLen; omega) (by omega) HB3.out.size ?_; intro v4 w4 hown4 hgrow4; have HO4 := hide hown4; have HB4 := hide (HB3.out.trans (grownJ hgrow4 HB3.out.size HG3.out)); clear hown4 hgrow4))
  have HT4 : Hid (Txs w4 (xl ++ xm)) := hide fun x hx => by
    rcases List.mem_append.1 hx with h | h
    · exact HTl.out.below HB4.out x h
    · exact HTm.out.below HB4.out x h
  have hn4 : 0 + xl.length + xm.length = (xl ++ xm).length := by rw [List.length_append]; omega
  have HR4 : Hid (Rw w4 v4 (l ++ m)) := hide (by
    have h5 := HO4.out
    rw [hn4, List.nil_append, ← flatV_app] at h5
    have h6 := Rw.of_own h5 HT4.out
    rw [List.map_append, HXl.out, HXm.out] at h6
    exact h6)
  obtain ⟨p4, c4, hv4⟩ := own_sliceJ HO4.out
  rw [Nat.zero_add, HLN.out.1, HLN.out.2] at hv4
  subst hv4
  have HE3 := hide (encode_any HR4.out)
  clear hn4 HT4 HO4 HO3 HR0 HG3
  have HJN := hide (join_no (l := l) (m := m))
  have HJY := hide (join_yes (l := l) (m := m))
  go_wp2_with fail
  refine HE3.out.mono ?_
  rintro e w5 ⟨rfl, hB5⟩
  have HB5 := hide (HB4.out.trans (hB5.mono HB4.out.size))
  clear hB5 HE3 HR4 HB4 HB3 HBa HB2 HB1
  by_cases h1 : (Rc.enco l).2 = 0
  · by_cases h2 : (Rc.enco m).2 = 0
    · obtain ⟨ea, eb, ec⟩ := HJY.out h1 h2
      clear HJN HJY
      obtain ⟨k1, -, k3, -⟩ := Rc.enco_ok h1
      obtain ⟨j1, -, j3, -⟩ := Rc.enco_ok h2
      rw [row_len (by omega)] at k3 j3
      have hna : (Rc.enco l).1.size = (Rc.all l).length + 1 := by rw [ea]; show (List.toArray _).size = _; simp
      have hnb : (Rc.enco m).1.size = (Rc.all m).length + 1 := by rw [eb]; show (List.toArray _).size = _; simp
      have hane2 : ((Rc.enco l).1.toList == []) = false := beq_eq_false_iff_ne.2 fun h => by
        have h7 : (Rc.enco l).1 = ⟨#[]⟩ := toList_inj (h.trans (by rw [ByteArray.toList_eq]))
        rw [h7] at hna; exact absurd hna (by show (0 : Nat) ≠ _; omega)
      have hbne2 : ((Rc.enco m).1.toList == []) = false := beq_eq_false_iff_ne.2 fun h => by
        have h7 : (Rc.enco m).1 = ⟨#[]⟩ := toList_inj (h.trans (by rw [ByteArray.toList_eq]))
        rw [h7] at hnb; exact absurd hnb (by show (0 : Nat) ≠ _; omega)
      rw [h1, h2]
      have HEA := hide ea
      have HEB := hide eb
      by_cases hbig : 16 < l.length + m.length ∨ 2048 < (Rc.all l).length + (Rc.all m).length + 1
      · rw [if_pos hbig] at ec
        rw [ec]
        clear ea eb ec HEA HEB
        have hza : (Rc.enco l).1.size ≤ 2048 := by omega
        have hzb : (Rc.enco m).1.size ≤ 2048 := by omega
        have hzz : 16 < l.length + m.length ∨ 2048 < (Rc.enco l).1.size + (Rc.enco m).1.size - 1 := by omega
        have HZ := hide hzz
        clear hna hnb hbig hzz k3 j3 k1 j1 h1 h2
        generalize (Rc.enco l).1 = sa at *
        generalize (Rc.enco m).1 = sb at *
        have he0 : Rc.e0 = ⟨#[]⟩ := rfl
        simp only [he0]
        clear he0
        by_cases h16 : 16 < l.length + m.length
        · have b16 : decide ((16 : Int) < (l.length : Int) + (m.length : Int)) = true := decide_eq_true (by omega)
          clear h16
          go_wp2_with fail
          refine (fixed_any _).mono ?_
          rintro e w6 ⟨rfl, hB6⟩
          go_wp2_with fail
          go_ret
          exact ⟨rfl, HB5.out.trans (hB6.mono HB5.out.size)⟩
        · have b16 : decide ((16 : Int) < (l.length : Int) + (m.length : Int)) = false := decide_eq_false (by omega)
          have b48 : decide ((2048 : Int) < (sa.size : Int) + (sb.size : Int) - 1) = true := decide_eq_true (by have := HZ.out; omega)
          clear h16
          go_wp2_with fail
          refine (fixed_any _).mono ?_
          rintro e w6 ⟨rfl, hB6⟩
          go_wp2_with fail
          go_ret
          exact ⟨rfl, HB5.out.trans (hB6.mono HB5.out.size)⟩
      · rw [if_neg hbig] at ec
        rw [ec]
        have hza : (Rc.enco l).1.size ≤ 2048 := by omega
        have hzb : (Rc.enco m).1.size ≤ 2048 := by omega
        have hza1 : 1 ≤ (Rc.enco l).1.size := by omega
        have hzb1 : 1 ≤ (Rc.enco m).1.size := by omega
        have b48 : decide ((2048 : Int) < ((Rc.enco l).1.size : Int) + ((Rc.enco m).1.size : Int) - 1) = false := decide_eq_false (by omega)
        have hsum : l.length + m.length ≤ 16 := by omega
        have z1 : ∀ (x : UInt8) (L : List UInt8), (⟨(x :: L).toArray⟩ : ByteArray).size = L.length + 1 := fun x L => by show (List.toArray _).size = _; simp
        have HCC : Hid ((⟨(UInt8.ofNat (l.length + m.length) :: (Rc.all l ++ Rc.all m)).toArray⟩ : ByteArray) = (⟨#[UInt8.ofNat (l.length + m.length)]⟩ : ByteArray) ++ ((Rc.enco l).1.extract 1 (Rc.enco l).1.size) ++ ((Rc.enco m).1.extract 1 (Rc.enco m).1.size)) := hide (by
          rw [ea, eb]
          apply toList_inj
          simp [ByteArray.toList_eq, z1])
        clear ea eb ec HEA HEB hna hnb hbig k3 j3 k1 j1 h1 h2 z1
        generalize (⟨(UInt8.ofNat (l.length + m.length) :: (Rc.all l ++ Rc.all m)).toArray⟩ : ByteArray) = sc at *
        generalize (Rc.enco l).1 = sa at *
        generalize (Rc.enco m).1 = sb at *
        generalize l.length + m.length = N at *
        have b16 : decide ((16 : Int) < (N : Int)) = false := decide_eq_false (by omega)
        go_wp2_with fail
        have bcc : (sc.toList == ((⟨#[UInt8.ofNat N]⟩ : ByteArray) ++ (sa.extract 1 sa.size) ++ (sb.extract 1 sb.size)).toList) = true := by rw [HCC.out]; simp
        have h8 : IntKind.u8.wrap (N : Int) = (N : Int) := by
          rcases (show N = 0 ∨ N = 1 ∨ N = 2 ∨ N = 3 ∨ N = 4 ∨ N = 5 ∨ N = 6 ∨ N = 7 ∨ N = 8 ∨ N = 9 ∨ N = 10 ∨ N = 11 ∨ N = 12 ∨ N = 13 ∨ N = 14 ∨ N = 15 ∨ N = 16 by omega) with rfl | rfl | rfl | rfl | rfl | rfl | rfl | rfl | rfl | rfl | rfl | rfl | rfl | rfl | rfl | rfl | rfl <;> rfl
        have cv : (convert 39 9 (.slice (some ⟨w5.heap.size, 0, none⟩) 1 1)).run Try.prog (w5.alloc (.cells #[.int .u8 (N : Int)] 5)).drew = .ok (.string ⟨#[UInt8.ofNat N]⟩) (w5.alloc (.cells #[.int .u8 (N : Int)] 5)).drew := by
          have h9 := run_convert_bytes_back (P := Try.prog) (w5.alloc (.cells #[.int .u8 (N : Int)] 5)).drew 39 9 5 ⟨w5.heap.size, 0, none⟩ 1 [UInt8.ofNat N] Try.underlying39 Try.underlying5 Try.underlying9 (by
            intro j hj
            have hj0 : j = 0 := by simpa using hj
            subst hj0
            have hn2 : N % 256 = N := Nat.mod_eq_of_lt (by omega)
            have hb' : (w5.alloc (.cells #[.int .u8 (N : Int)] 5)).drew.heap[w5.heap.size]? = some (.cells #[.int .u8 (N : Int)] 5) := heap_alloc_new w5 _
            rw [Addr.add_lit]
            unfold World.cell?
            rw [show (w5.alloc (.cells #[.int .u8 (N : Int)] 5)).drew.heap[(⟨w5.heap.size, 0 + 0, none⟩ : Addr).block]? = _ from hb']
            simp [hn2])
          exact h9
        have hmx1 : sa.size ≤ 9223372036854775807 := by omega
        have hmx2 : sa.size + (sb.size - 1) ≤ 9223372036854775807 := by omega
        have ha1 : ¬ (sa.size : Int) < 1 := by omega
        have hb1 : ¬ (sb.size : Int) < 1 := by omega
        have ha2 : (1 : Int) ≤ (sa.size : Int) := by omega
        have hb2 : (1 : Int) ≤ (sb.size : Int) := by omega
        have hd5 : Below w.heap.size (w5.alloc (.cells #[.int .u8 (N : Int)] 5)) (w5.alloc (.cells #[.int .u8 (N : Int)] 5)).drew := ⟨rfl, rfl, rfl, Nat.le_refl _, fun _ _ => rfl⟩
        have HBw : Hid (Below w.heap.size w (w5.alloc (.cells #[.int .u8 (N : Int)] 5)).drew) := hide ((HB5.out.alloc HB5.out.size _).trans hd5)
        clear hd5
        refine wp_region_held_drew (S := fun _ => True) (by kernel_rfl) (trivial) (fun hHeld => ?_)
        refine wpAnyH_take (i := 0) (v := .int .i64 0) rfl (by kernel_rfl) (by kernel_rfl) (by kernel_rfl) (fun _ _ _ h => h) (Or.inl ⟨by kernel_rfl, fun w1 hSw => by clear hHeld; go_simp⟩) hHeld ?_
        simp only [Act.put, List.setIfInBounds_toArray]
        refine wpAnyH_take (i := 1) (v := .bool true) rfl (by kernel_rfl) (by kernel_rfl) (by kernel_rfl) (fun _ _ _ h => h) (Or.inl ⟨by kernel_rfl, fun w1 hSw => by clear hHeld; go_simp⟩) hHeld ?_
        try simp only [Act.put]
        refine wpAnyH_take (i := 2) (v := .bool true) rfl (by kernel_rfl) (by kernel_rfl) (by kernel_rfl) (fun _ _ _ h => h) (Or.inl ⟨by kernel_rfl, fun w1 hSw => by clear hHeld; go_simp⟩) hHeld ?_
        try simp only [Act.put]
        refine wpAnyH_take (i := 3) (v := .string sc) rfl (by kernel_rfl) (by kernel_rfl) (by kernel_rfl) (fun _ _ _ h => h) (Or.inl ⟨by kernel_rfl, fun w1 hSw => by clear hHeld; go_simp⟩) hHeld ?_
        try simp only [Act.put]
        refine wpAnyH_take (i := 4) (v := .slice p4 N c4) rfl (by kernel_rfl) (by kernel_rfl) (by kernel_rfl) (fun _ _ _ h => h) (Or.inl ⟨by kernel_rfl, fun w1 hSw => by clear hHeld; go_simp⟩) hHeld ?_
        try simp only [Act.put]
        refine wpAnyH_take (i := 5) (v := .int .i64 (N : Int)) rfl (by kernel_rfl) (by kernel_rfl) (by kernel_rfl) (fun _ _ _ h => h) (Or.inl ⟨by kernel_rfl, fun w1 hSw => by clear hHeld; go_simp⟩) hHeld ?_
        try simp only [Act.put]
        refine wpAnyH_take (i := 6) (v := .int .u8 (N : Int)) rfl (by kernel_rfl) (by kernel_rfl) (by kernel_rfl) (fun _ _ _ h => h) (Or.inl ⟨by kernel_rfl, fun w1 hSw => by clear hHeld; go_simp⟩) hHeld ?_
        try simp only [Act.put]
        refine wpAnyH_take (i := 9) (v := .string sa) rfl (by kernel_rfl) (by kernel_rfl) (by kernel_rfl) (fun _ _ _ h => h) (Or.inl ⟨by kernel_rfl, fun w1 hSw => by clear hHeld; go_simp⟩) hHeld ?_
        try simp only [Act.put]
        refine wpAnyH_take (i := 10) (v := .string (sa.extract 1 sa.size)) rfl (by kernel_rfl) (by kernel_rfl) (by kernel_rfl) (fun _ _ _ h => h) (Or.inl ⟨by kernel_rfl, fun w1 hSw => by clear hHeld; go_simp⟩) hHeld ?_
        try simp only [Act.put]
        refine wpAnyH_take (i := 12) (v := .string sb) rfl (by kernel_rfl) (by kernel_rfl) (by kernel_rfl) (fun _ _ _ h => h) (Or.inl ⟨by kernel_rfl, fun w1 hSw => by clear hHeld; go_simp⟩) hHeld ?_
        try simp only [Act.put]
        refine wpAnyH_take (i := 13) (v := .string (sb.extract 1 sb.size)) rfl (by kernel_rfl) (by kernel_rfl) (by kernel_rfl) (fun _ _ _ h => h) (Or.inl ⟨by kernel_rfl, fun w1 hSw => by clear hHeld; go_simp⟩) hHeld ?_
        try simp only [Act.put]
        refine wpAnyH_ready (rs := [7]) (by kernel_rfl) (by simp) ?_
        refine AllReadyH.cons rfl (fun K hK => ?_) AllReadyH.nil
        go_simp
        refine hK.out _ _ (trivial) (fun hHeld => ?_)
        clear hK K
        refine wpAnyH_ready (rs := [8]) (by kernel_rfl) (by simp) ?_
        refine AllReadyH.cons rfl (fun K hK => ?_) AllReadyH.nil
        go_simp
        refine hK.out _ _ (trivial) (fun hHeld => ?_)
        clear hK K
        refine wpAnyH_take (i := 11) (v := .string ((⟨#[UInt8.ofNat N]⟩ : ByteArray) ++ sa.extract 1 sa.size)) rfl (by kernel_rfl) (by kernel_rfl) (by kernel_rfl) (fun _ _ _ h => h) (Or.inl ⟨by kernel_rfl, fun w1 hSw => by clear hHeld; go_simp⟩) hHeld ?_
        try simp only [Act.put]
        refine wpAnyH_take (i := 14) (v := .string ((⟨#[UInt8.ofNat N]⟩ : ByteArray) ++ sa.extract 1 sa.size ++ sb.extract 1 sb.size)) rfl (by kernel_rfl) (by kernel_rfl) (by kernel_rfl) (fun _ _ _ h => h) (Or.inl ⟨by kernel_rfl, fun w1 hSw => by clear hHeld; go_simp⟩) hHeld ?_
        try simp only [Act.put]
        refine wpAnyH_take (i := 15) (v := .bool true) rfl (by kernel_rfl) (by kernel_rfl) (by kernel_rfl) (fun _ _ _ h => h) (Or.inl ⟨by kernel_rfl, fun w1 hSw => by clear hHeld; go_simp⟩) hHeld ?_
        try simp only [Act.put]
        refine wpAnyH_take (i := 16) (v := .bool true) rfl (by kernel_rfl) (by kernel_rfl) (by kernel_rfl) (fun _ _ _ h => h) (Or.inl ⟨by kernel_rfl, fun w1 hSw => by clear hHeld; go_simp⟩) hHeld ?_
        try simp only [Act.put]
        refine wpAnyH_take (i := 17) (v := .bool true) rfl (by kernel_rfl) (by kernel_rfl) (by kernel_rfl) (fun _ _ _ h => h) (Or.inl ⟨by kernel_rfl, fun w1 hSw => by clear hHeld; go_simp⟩) hHeld ?_
        try simp only [Act.put]
        refine wpAnyH_ready (rs := [18]) (by kernel_rfl) (by simp) ?_
        refine AllReadyH.cons rfl (fun K hK => ?_) AllReadyH.nil
        go_simp
        refine (fixed_any _).mono ?_
        rintro e w6 ⟨rfl, hB6⟩
        have HB6 := hide (HBw.out.trans (hB6.mono HBw.out.size))
        clear hB6
        refine hK.out _ _ (trivial) (fun hHeld => ?_)
        clear hK K
        refine wpAnyH_take (i := 19) (v := .bool true) rfl (by kernel_rfl) (by kernel_rfl) (by kernel_rfl) (fun _ _ _ h => h) (Or.inl ⟨by kernel_rfl, fun w1 hSw => by clear hHeld; go_simp⟩) hHeld ?_
        try simp only [Act.put]
        refine wpAnyH_ready (rs := [20]) (by kernel_rfl) (by simp) ?_
        refine AllReadyH.cons rfl (fun K hK => ?_) AllReadyH.nil
        go_simp
        refine hK.out _ _ (trivial) (fun hHeld => ?_)
        clear hK K
        refine wpAnyH_done (by kernel_rfl) ?_ _
        clear hHeld
        skip
        go_wp2_with fail
        go_ret
        exact ⟨rfl, HB6.out⟩
    · have h12 : (Rc.enco l).2 ≠ 0 ∨ (Rc.enco m).2 ≠ 0 := .inr h2
      have HJ := hide (HJN.out h12)
      clear HJN HJY h12
      generalize Rc.enco l = El at *
      generalize Rc.enco m = Em at *
      generalize Rc.enco (l ++ m) = Eg at *
      obtain ⟨sa, el⟩ := El
      obtain ⟨sb, em⟩ := Em
      obtain ⟨sc, eg⟩ := Eg
      simp only at *
      have elh : (el : Int) = 0 := by omega
      have bel : ((el : Int) == 0) = true := by simpa using elh
      have beln : ((el : Int) != 0) = false := by simp [bne, bel]
      have emh : ¬ (em : Int) = 0 := by omega
      have bem : ((em : Int) == 0) = false := by simpa using emh
      have bemn : ((em : Int) != 0) = true := by simp [bne, bem]
      by_cases h3 : eg = 0
      · have bgh : (eg : Int) = 0 := by omega
        have bg : ((eg : Int) == 0) = true := by simpa using bgh
        have bgn : ((eg : Int) != 0) = false := by simp [bne, bg]
        by_cases h4 : l.length = 0
        · have b4 : ((l.length : Int) == 0) = true := by simp; exact List.length_eq_zero_iff.1 h4
          go_wp2_with fail
          refine (fixed_any _).mono ?_
          rintro e w6 ⟨rfl, hB6⟩
          go_wp2_with fail
          go_ret
          exact ⟨rfl, HB5.out.trans (hB6.mono HB5.out.size)⟩
        · have b4 : ((l.length : Int) == 0) = false := by simp; exact fun e => h4 (by rw [e]; rfl)
          have h5 : m.length = 0 := by
            by_cases h6 : m.length = 0
            · exact h6
            · exact absurd h3 (HJ.out h4 h6)
          have b5 : ((m.length : Int) == 0) = true := by simp; exact List.length_eq_zero_iff.1 h5
          go_wp2_with fail
          refine (fixed_any _).mono ?_
          rintro e w6 ⟨rfl, hB6⟩
          go_wp2_with fail
          go_ret
          exact ⟨rfl, HB5.out.trans (hB6.mono HB5.out.size)⟩
      · have bgh : ¬ (eg : Int) = 0 := by omega
        have bg : ((eg : Int) == 0) = false := by simpa using bgh
        have bgn : ((eg : Int) != 0) = true := by simp [bne, bg]
        go_wp2_with fail
        refine (fixed_any _).mono ?_
        rintro e w6 ⟨rfl, hB6⟩
        go_wp2_with fail
        go_ret
        exact ⟨rfl, HB5.out.trans (hB6.mono HB5.out.size)⟩
  · have h12 : (Rc.enco l).2 ≠ 0 ∨ (Rc.enco m).2 ≠ 0 := .inl h1
    have HJ := hide (HJN.out h12)
    clear HJN HJY h12
    generalize Rc.enco l = El at *
    generalize Rc.enco m = Em at *
    generalize Rc.enco (l ++ m) = Eg at *
    obtain ⟨sa, el⟩ := El
    obtain ⟨sb, em⟩ := Em
    obtain ⟨sc, eg⟩ := Eg
    simp only at *
    have elh : ¬ (el : Int) = 0 := by omega
    have bel : ((el : Int) == 0) = false := by simpa using elh
    have beln : ((el : Int) != 0) = true := by simp [bne, bel]
    by_cases h3 : eg = 0
    · have bgh : (eg : Int) = 0 := by omega
      have bg : ((eg : Int) == 0) = true := by simpa using bgh
      have bgn : ((eg : Int) != 0) = false := by simp [bne, bg]
      by_cases h4 : l.length = 0
      · have b4 : ((l.length : Int) == 0) = true := by simp; exact List.length_eq_zero_iff.1 h4
        go_wp2_with fail
        refine (fixed_any _).mono ?_
        rintro e w6 ⟨rfl, hB6⟩
        go_wp2_with fail
        go_ret
        exact ⟨rfl, HB5.out.trans (hB6.mono HB5.out.size)⟩
      · have b4 : ((l.length : Int) == 0) = false := by simp; exact fun e => h4 (by rw [e]; rfl)
        have h5 : m.length = 0 := by
          by_cases h6 : m.length = 0
          · exact h6
          · exact absurd h3 (HJ.out h4 h6)
        have b5 : ((m.length : Int) == 0) = true := by simp; exact List.length_eq_zero_iff.1 h5
        go_wp2_with fail
        refine (fixed_any _).mono ?_
        rintro e w6 ⟨rfl, hB6⟩
        go_wp2_with fail
        go_ret
        exact ⟨rfl, HB5.out.trans (hB6.mono HB5.out.size)⟩
    · have bgh : ¬ (eg : Int) = 0 := by omega
      have bg : ((eg : Int) == 0) = false := by simpa using bgh
      have bgn : ((eg : Int) != 0) = true := by simp [bne, bg]
      go_wp2_with fail
      refine (fixed_any _).mono ?_
      rintro e w6 ⟨rfl, hB6⟩
      go_wp2_with fail
      go_ret
      exact ⟨rfl, HB5.out.trans (hB6.mono HB5.out.size)⟩
end Go.Proofs.Ytcadelkinbdfhaa
end
