import Derived.Test.YtnhibcadenmglabDkQ
import Derived.Laws.AppendOwnNone
import Derived.Deep.DeepCutAuto
namespace Go.Proofs.Ytnhibcadenmglab
open Go.RowKit

set_option maxHeartbeats 400000 in
theorem rnew_no {w : World} {n : Int} (h : ¬ (1 ≤ n ∧ n ≤ 1026)) :
    Calls Try.prog 21 #[.int .i64 n] w fun e w' => e = .returned (.tuple #[.pointer none, .int .i64 40]) ∧ w' = w := by
  by_cases h0 : n < 1
  · have b0 : decide (n < 1) = true := by simp; omega
    clear h
    go_enter Try.func21, Try.ntmps21
    go_wp2
    go_ret2
    exact ⟨rfl, rfl⟩
  · have b0 : decide (n < 1) = false := by simp; omega
    have b1 : decide (1026 < n) = true := by simp; omega
    clear h h0
    go_enter Try.func21, Try.ntmps21
    go_wp2
    go_ret2
    exact ⟨rfl, rfl⟩

theorem DS.write_few' (d : DS) (k : Int) (x : ByteArray) {N : Nat} (h : d.R.length ≤ N) : (d.write k x).2.R.length ≤ N + 1 := by have := d.write_len k x; omega
/-- what must stay: a disk, and four answers; T: what is turned -/
structure Kp (B : Nat) (w : World) (T : Nat → Prop) (b : Nat) (F : Nat → Prop) (d : DS) (adc : Option Addr) (abc : Nat) (adw : Option Addr) (abw : Nat) (adn : Option Addr) (abn : Nat) (adr : Option Addr) (abr : Nat) : Prop where
  hd : Dk B w b F d
  rc : Rs w adc abc 0 d.S
  rw : Rw w adw abw 0 d.R
  rn : Rs w adn abn 0 d.S
  rr : Rw w adr abr 0 d.R
  tf : ∀ k, F k → ¬ T k
  tc : ¬ T abc
  tw : 0 < d.R.length → ¬ T abw
  tn : ¬ T abn
  tr : 0 < d.R.length → ¬ T abr
section
variable {B : Nat} {w w' : World} {T : Nat → Prop} {b : Nat} {F : Nat → Prop} {d : DS} {adc : Option Addr} {abc : Nat} {adw : Option Addr} {abw : Nat} {adn : Option Addr} {abn : Nat} {adr : Option Addr} {abr : Nat}
theorem Kp.mv (h : Kp B w T b F d adc abc adw abw adn abn adr abr) {T' : Nat → Prop} (hm : Mv T T' w w') : Kp B w' T' b F d adc abc adw abw adn abn adr abr := by
  have hp := h.hd.ok.s0
  have far : ∀ k, k < w.heap.size → ¬ T k → ¬ T' k := fun k hk hn hf => (hm.foot k hf).elim hn (fun h1 => absurd hk (by omega))
  exact ⟨h.hd.mv hm h.tf, h.rc.mv hm (fun _ => h.tc), h.rw.mv hm h.tw, h.rn.mv hm (fun _ => h.tn), h.rr.mv hm h.tr, fun k hk => far k (h.hd.ftlt k hk).2 (h.tf k hk), far _ (h.rc.lt hp) h.tc, fun h0 => far _ (h.rw.lt h0) (h.tw h0), far _ (h.rn.lt hp) h.tn, fun h0 => far _ (h.rr.lt h0) (h.tr h0)⟩
theorem Kp.below (h : Kp B w T b F d adc abc adw abw adn abn adr abr) (hb : Below w.heap.size w w') : Kp B w' T b F d adc abc adw abw adn abn adr abr := h.mv (Mv.of_below hb)
end

theorem one_new (w : World) (v : Value) (t : TypeId) : ∀ j u, [v][j]? = some u → (w.alloc (.cells #[v] t)).cell? ((⟨w.heap.size, 0, none⟩ : Addr).add j) = some u := by
  intro j u hj
  match j, hj with
  | 0, hj => simp at hj; subst hj; simp [Addr.add]
/-- append of a row of its own, nil or not -/
theorem wpList_append_from {P : Program} {w : World} {ops : Array Oper} {rest : List Oper} {o : Oper} {a : Act} {Q : Exit → Act → World → Prop} (hgd : o.guard = none) (s x : Operand) (t : TypeId)
    (ho : o.op = .call { callee := .builtin .append, args := #[s, x], argTypes := #[t, t] })
    (base : Nat) (e : TypeId) (i : TypeInfo) (z : Value) (size bytes : Nat) (ht : P.underlying t = some (.slice e)) (hi : P.info? e = some i) (hz : i.zero = some z)
    (hsize : i.size = size) (hby : i.bytes = bytes) (hzs : z.cells.size = size) (hsz : 0 < size)
    (v : Value) (n : Nat) (xs : List Value) (hs : a.eval s = v) (hown : w.ownsRow base e size v n xs)
    (B : Nat) (vb : Value) (m : Nat) (ys : List Value) (hx : a.eval x = vb) (hb : w.ownsRow B e size vb m ys) (h1 : ∀ u ∈ ys, u.oneCell' = true)
    (h63 : n + m ≤ maxLen) (hbytes : (n + m) * bytes ≤ 140737488355328) (hbase : base ≤ w.heap.size)
    (h : ∀ v' w', w'.ownsRow base e size v' (n + m) (xs ++ ys) → w.grownBy w' v.ownBlock → wpList P ops Q rest (a.put o.dst v') w') : wpList P ops Q (o :: rest) a w := by
  have hlen := hb.1
  rcases own_form hb with ⟨rfl, rfl⟩ | ⟨g, cap, rfl, _⟩
  · obtain rfl : ys = [] := List.length_eq_zero_iff.1 (by rw [hlen, Nat.zero_mul])
    refine wpList_append_own_none hgd s x t ho base e i size ht hi v n xs hs hown hx ?_
    exact h v w (by rw [Nat.add_zero, List.append_nil]; exact hown) ⟨rfl, rfl, rfl, Nat.le_refl _, fun _ _ _ => rfl⟩
  · refine wpList_append_own _ hgd s x t ho base e i z size bytes ht hi hz hsize hby hzs hsz v n xs hs hown ⟨g, 0, none⟩ m cap ys hx hlen (fun j u hu => hb.cells (g := g) rfl j u hu) h1 h63 hbytes hbase ?_
    intro v' w' h2 h3 _
    exact h v' w' h2 h3
theorem sectors_own {base : Nat} {w : World} {b : Nat} {F : Nat → Prop} {d : DS} (h : Dk base w b F d) {n : Nat} (e : d.S.length = n) :
    Calls Try.prog 11 #[.pointer (some ⟨b, 0, none⟩)] w fun e w' => ∃ g cap, e = .returned (.slice (some ⟨g, 0, none⟩) n cap) ∧ w'.ownsRow w.heap.size 9 1 (.slice (some ⟨g, 0, none⟩) n cap) n (d.S.map .string) ∧ Below w.heap.size w w' := by
  subst e
  refine (sectors_any h).mono ?_
  rintro e w1 ⟨v, rfl, hown, hb⟩
  rcases own_form hown with ⟨_, hn⟩ | ⟨g, cap, rfl, _⟩
  · have := h.ok.s0; omega
  · exact ⟨g, cap, rfl, hown, hb⟩
theorem mv_grown {w w' : World} {o : Obj} {r : Option Nat} {T T' : Nat → Prop} (hg : (w.alloc o).grownBy w' r) (h1 : ∀ k, r = some k → T k) (h2 : ∀ k, T' k → T k) : Mv T T' w w' :=
  ⟨hg.os, hg.tape, hg.output, by have := hg.size; rw [World.size_alloc] at this; omega, fun k hk hn => (hg.block k (by rw [World.size_alloc]; omega) (fun e => hn (h1 k e.symm))).trans (Below.heap_alloc w o k hk), fun k hk => .inl (h2 k hk)⟩
theorem strs_one (S : List ByteArray) : ∀ u ∈ S.map Value.string, u.oneCell' = true := by
  intro u hu
  obtain ⟨s, _, rfl⟩ := List.mem_map.1 hu
  rfl

set_option maxHeartbeats 4000000 in
set_option maxRecDepth 8000 in
theorem diskKeeps_walk {w : World} {z : Int} {ad3 : Option Addr} {ab3 ao3 cap3 : Nat} {Q : List OpV} (_ : -9223372036854775808 ≤ z ∧ z ≤ 9223372036854775807) (h3 : Ro w ad3 ab3 ao3 Q) (hQ : Q.length ≤ 5864062014634) :
    Calls Try.prog 5 #[.int .i64 z, .slice ad3 Q.length cap3] w fun e w' => e = .returned (.bool true) ∧ Below w.heap.size w w' := by
  by_cases hz : 1 ≤ z ∧ z ≤ 1026
  · obtain ⟨n, rfl⟩ : ∃ n : Nat, z = (n : Int) := ⟨z.toNat, by omega⟩
    have hn0 : 1 ≤ n := by omega
    have hn1 : n ≤ 1026 := by omega
    have HN := hide (new_any (w := w) hn0 hn1)
    have HC0 : Hid ((fresh (List.replicate n zsec)).calm ∧ (fresh (List.replicate n zsec)).S.length = n) := ⟨⟨fresh_ok (rep_128 n) (by rw [List.length_replicate]; exact hn0) (by rw [List.length_replicate]; exact hn1), rfl, rfl⟩, List.length_replicate⟩
    have HR0 : Hid ((fresh (List.replicate n zsec)).R.length ≤ 0) := Nat.le_refl 0
    generalize fresh (List.replicate n zsec) = D0 at *
    have H3 := hide h3
    clear hz h3
    go_enter Try.func5, Try.ntmps5
    go_wp2_with fail
    refine HN.out.mono ?_
    rintro e w0 ⟨b, F0, rfl, hD0, hb0⟩
    have HD0 := hide hD0
    have HB0 := hide hb0
    clear hD0 hb0 HN
    go_wp2_with fail
    go_loopw [9] (fun u wr => ∃ (i : Nat) (d : DS) (F' : Nat → Prop), u = .int .i64 (i : Int) ∧ i ≤ Q.length ∧ Hid (d.calm ∧ d.S.length = n) ∧ Hid (d.R.length ≤ i) ∧ Hid (Dk w.heap.size wr b F' d) ∧ Hid (Below w.heap.size w wr)) (fun u _ => (Q.length - (intOf u).toNat))
    case atStart => exact ⟨0, D0, F0, rfl, Nat.zero_le _, HC0, HR0, HD0, HB0⟩
    case round =>
      obtain ⟨i, d, F, rfl, hi, HC, HR, HD, HB⟩ := hrel
      clear HC0 HR0 HD0 HB0
      by_cases hil : i < Q.length
      · have O := H3.out.below HB.out
        have ea := O.at_ (by omega)
        have g1 := O.k i hil
        have g2 := O.a i hil
        have g4 := O.s i hil
        have KO : Hid (∀ w2, Below w.heap.size w w2 → w2.cell? ⟨ab3, ao3 + i * 5 + 2, none⟩ = some (.int .i64 Q[i].a) ∧ w2.cell? ⟨ab3, ao3 + i * 5 + 4, none⟩ = some (.string Q[i].s)) := fun w2 hb => ⟨(H3.out.below hb).a i hil, (H3.out.below hb).s i hil⟩
        subst ea
        generalize Q[i] = q at *
        obtain ⟨x0, x1, x2, x3, x4⟩ := q
        simp only at g1 g2 g4 KO
        clear O
        by_cases hk : x1 = 1
        · have HW := hide (write_any HD.out.drew x2 x4 (by have := HR.out; omega))
          have HC2 : Hid ((d.write x2 x4).2.calm ∧ (d.write x2 x4).2.S.length = n) := ⟨HC.out.1.write _ _, by rw [d.write_slen]; exact HC.out.2⟩
          have HR2 : Hid ((d.write x2 x4).2.R.length ≤ i + 1) := d.write_few' x2 x4 HR.out
          generalize (d.write x2 x4).1 = E at *
          generalize (d.write x2 x4).2 = d2 at *
          subst hk
          go_wp2_with fail
          go_region_held3 (fun w' => w'.cell? ⟨ab3, ao3 + i * 5 + 2, none⟩ = some (.int .i64 x2) ∧ w'.cell? ⟨ab3, ao3 + i * 5 + 4, none⟩ = some (.string x4)) (go_keep) (first
            | (go_at_call 14; refine HW.out.mono ?_; rintro e w2 ⟨rfl, F2, hD2, hM2⟩; have HD2 := hide hD2; have HB2 := hide (HB.out.trans (below_drew (hM2.below HB.out.size HD.out.ftlow))); obtain ⟨k0, k1⟩ := KO.out w2 HB2.out; clear hD2 hM2))
          go_wp2
          exact ⟨⟨i + 1, d2, F2, by go_num, by omega, HC2, HR2, HD2, HB2⟩, by simp [intOf]; omega⟩
        · have b0 : (x1 == 1) = false := by simpa using hk
          have HR2 : Hid (d.R.length ≤ i + 1) := Nat.le_succ_of_le HR.out
          go_wp2_with fail
          exact ⟨⟨i + 1, d, F, by go_num, by omega, HC, HR2, HD, HB⟩, by simp [intOf]; omega⟩
      · obtain rfl : i = Q.length := by omega
        have hSl := HC.out.2
        have hRl := HR.out
        obtain ⟨iS, hiS, zS0, zS1, zS2⟩ := info_parts Try.infoS
        obtain ⟨iW, hiW, zW0, zW1, zW2⟩ := info_parts Try.infoW
        obtain ⟨M, hM⟩ : ∃ M, d.R.length = M := ⟨_, rfl⟩
        have hMl : M ≤ 5864062014634 := by omega
        have HM := hide hM
        have HSl := hide hSl
        clear hM hSl hRl
        have HA := hide (sectors_own HD.out HSl.out)
        go_wp2_with fail
        refine HA.out.mono ?_
        rintro e w1 ⟨ga, ca, rfl, ho1, hb1⟩
        have HO1 := hide ho1
        have HD1 := hide (HD.out.below hb1)
        have HB1 := hide (HB.out.trans (below_up hb1 HB.out.size))
        have HL1 := hide hb1
        clear ho1 hb1 HA
        have hRb := raw_any HD1.out (by rw [HM.out]; omega)
        rw [HM.out] at hRb
        have HRb := hide hRb
        clear hRb
        go_wp2_with fail
        refine HRb.out.mono ?_
        rintro e w2 ⟨vb, rfl, ho2, hb2⟩
        obtain ⟨adb, cb, rfl⟩ := own_slice ho2
        have HO2 := hide ho2
        have HD2 := hide (HD1.out.below hb2)
        have HB2 := hide (HB1.out.trans (below_up hb2 HB1.out.size))
        have HA2 := hide (own_keep HO1.out (fun k hk => hb2.block k (HO1.out.lt k hk).2))
        have HL2 := hide hb2
        clear ho2 hb2 HRb
        have HCc := hide (sectors_len HD2.out rfl HSl.out)
        go_wp2_with fail
        refine HCc.out.mono ?_
        rintro e w3 ⟨adc, cc, abc, rfl, hr3, hab3, hb3⟩
        have HR3 := hide hr3
        have HD3 := hide (HD2.out.below hb3)
        have HB3 := hide (HB2.out.trans (below_up hb3 HB2.out.size))
        have HA3 := hide (own_keep HA2.out (fun k hk => hb3.block k (HA2.out.lt k hk).2))
        have HO3 := hide (own_keep HO2.out (fun k hk => hb3.block k (HO2.out.lt k hk).2))
        have HL3 := hide hb3
        have HAB3 := hide hab3
        clear hr3 hab3 hb3 HCc HA2
        have HCw := hide (raw_len HD3.out rfl HM.out (by omega))
        go_wp2_with fail
        refine HCw.out.mono ?_
        rintro e w4 ⟨adw, cw, abw, rfl, hr4, hab4, hb4⟩
        have HR4 := hide hr4
        have HD4 := hide (HD3.out.below hb4)
        have HB4 := hide (HB3.out.trans (below_up hb4 HB3.out.size))
        have HA4 := hide (own_keep HA3.out (fun k hk => hb4.block k (HA3.out.lt k hk).2))
        have HO4 := hide (own_keep HO3.out (fun k hk => hb4.block k (HO3.out.lt k hk).2))
        have HC4 := hide (HR3.out.below hb4)
        have HL4 := hide hb4
        have HAB4 := hide hab4
        clear hr4 hab4 hb4 HCw HA3 HO3 HR3
        obtain ⟨aba, hra⟩ := (Rs.own HA4.out).2
        obtain ⟨abb, hrb⟩ := (Rw.own HO4.out).2
        have HS1 := hide (same_len (cap := ca) (cap' := cc) hra HC4.out HSl.out (by omega))
        have HRB := hide hrb
        clear hra hrb
        go_wp2_with fail
        refine HS1.out.mono ?_
        rintro e w5 ⟨rfl, hb5⟩
        have HS2 := hide (sameRaw_len (cap := cb) (cap' := cw) (HRB.out.below hb5) (HR4.out.below hb5) HM.out (by omega))
        have HD5 := hide (HD4.out.below hb5)
        have HB5 := hide (HB4.out.trans (below_up hb5 HB4.out.size))
        have HA5 := hide (own_keep HA4.out (fun k hk => hb5.block k (HA4.out.lt k hk).2))
        have HO5 := hide (own_keep HO4.out (fun k hk => hb5.block k (HO4.out.lt k hk).2))
        have HC5 := hide (HC4.out.below hb5)
        have HW5 := hide (HR4.out.below hb5)
        have HL5 := hide hb5
        clear hb5 HS1 HA4 HO4 HC4 HR4 HRB
        go_wp2_with fail
        refine HS2.out.mono ?_
        rintro e w6 ⟨rfl, hb6⟩
        have HD6 := hide (HD5.out.below hb6)
        have HB6 := hide (HB5.out.trans (below_up hb6 HB5.out.size))
        have HA6 := hide (own_keep HA5.out (fun k hk => hb6.block k (HA5.out.lt k hk).2))
        have HO6 := hide (own_keep HO5.out (fun k hk => hb6.block k (HO5.out.lt k hk).2))
        have HC6 := hide (HC5.out.below hb6)
        have HW6 := hide (HW5.out.below hb6)
        have HL6 := hide hb6
        clear hb6 HS2 HA5 HO5 HC5 HW5
        have hsz : w.heap.size ≤ w6.heap.size := HB6.out.size
        go_upto_region 15 with (at_builtin; refine wpList_append_from rfl _ _ 22 rfl w6.heap.size 9 iS (.string ByteArray.empty) 1 16 Try.underlying22 hiS zS0 zS1 zS2 rfl (by decide) (.slice (some ⟨w6.heap.size, 0, none⟩) 0 0) 0 [] rfl (World.ownsRow_made w6 #[] 0 (Nat.le_refl _) (by decide) rfl) wr.heap.size (.slice (some ⟨ga, 0, none⟩) n ca) n (d.S.map .string) rfl (HA6.out.alloc _) (strs_one _) (by unfold maxLen; omega) (by omega) (by rw [World.size_alloc]; omega) ?_; intro v7 w7 hown7 hgrow7)
        rw [Nat.zero_add, List.nil_append] at hown7
        obtain ⟨adn, cn, rfl⟩ := own_slice hown7
        have hb7 : Below w6.heap.size w6 w7 := ((Below.refl _ w6).alloc (Nat.le_refl _) _).grown hgrow7 (by rw [World.size_alloc]; omega) (fun k hk => by simp only [Value.ownBlock] at hk; injection hk with hk; omega)
        obtain ⟨abn, hrn⟩ := (Rs.own hown7).2
        have HN7 := hide hrn
        have HAN : Hid (w6.heap.size ≤ abn) := show _ ≤ _ by
          have ea := hrn.at_ (by rw [HSl.out]; omega)
          subst ea
          exact (hown7.lt abn rfl).1
        have HD7 := hide (HD6.out.below hb7)
        have HB7 := hide (HB6.out.trans (below_up hb7 HB6.out.size))
        have HA7 := hide (own_keep HA6.out (fun k hk => hb7.block k (HA6.out.lt k hk).2))
        have HO7 := hide (own_keep HO6.out (fun k hk => hb7.block k (HO6.out.lt k hk).2))
        have HC7 := hide (HC6.out.below hb7)
        have HW7 := hide (HW6.out.below hb7)
        have HL7 := hide hb7
        clear hown7 hgrow7 hb7 hrn HA6 HO6 HC6 HW6
        go_upto_region 16 with (at_builtin; refine wpList_append_from rfl _ _ 23 rfl w7.heap.size 43 iW (.agg #[.int .i64 0, .string ByteArray.empty]) 2 24 Try.underlying23 hiW zW0 zW1 zW2 rfl (by decide) (.slice (some ⟨w7.heap.size, 0, none⟩) 0 0) 0 [] rfl (World.ownsRow_made w7 #[] 0 (Nat.le_refl _) (by decide) rfl) w1.heap.size (.slice adb M cb) M (wcs d.R) rfl (HO7.out.alloc _) (wcs_ones _) (by unfold maxLen; omega) (by omega) (by rw [World.size_alloc]; omega) ?_; intro v8 w8 hown8 hgrow8)
        rw [Nat.zero_add, List.nil_append] at hown8
        obtain ⟨adr, cr, rfl⟩ := own_slice hown8
        have hb8 : Below w7.heap.size w7 w8 := ((Below.refl _ w7).alloc (Nat.le_refl _) _).grown hgrow8 (by rw [World.size_alloc]; omega) (fun k hk => by simp only [Value.ownBlock] at hk; injection hk with hk; omega)
        obtain ⟨abr, hrr⟩ := (Rw.own hown8).2
        have hgaB : wr.heap.size ≤ ga ∧ ga < w1.heap.size := HO1.out.lt ga rfl
        have hgb : ∀ k, (Value.slice adb M cb).ownBlock = some k → w1.heap.size ≤ k ∧ k < w2.heap.size := HO2.out.lt
        have s1 := HL1.out.size; have s2 := HL2.out.size; have s3 := HL3.out.size; have s4 := HL4.out.size; have s5 := HL5.out.size; have s6 := HL6.out.size; have s7 := HL7.out.size; have sB := HB.out.size
        have HK8 : Hid (Kp w.heap.size w8 (fun k => k = ga ∨ (Value.slice adb M cb).ownBlock = some k) b F d adc abc adw abw adn abn adr abr) := by
          refine ⟨HD7.out.below hb8, HC7.out.below hb8, HW7.out.below hb8, HN7.out.below hb8, hrr, fun k hk ht => ?_, fun ht => ?_, fun h0 ht => ?_, fun ht => ?_, fun h0 ht => ?_⟩
          · have := (HD.out.ftlt k hk).2
            rcases ht with ht | ht
            · omega
            · have := hgb k ht; omega
          · have := HAB3.out
            rcases ht with ht | ht
            · omega
            · have := hgb _ ht; omega
          · have := HAB4.out (by rw [← HM.out]; exact h0)
            rcases ht with ht | ht
            · omega
            · have := hgb _ ht; omega
          · have := HAN.out
            rcases ht with ht | ht
            · omega
            · have := hgb _ ht; omega
          · have ea := hrr.at_ h0
            subst ea
            have := (hown8.lt abr rfl).1
            rcases ht with ht | ht
            · omega
            · have := hgb _ ht; omega
        have HA8 : Hid (∃ xs, w8.ownsRow w.heap.size 9 1 (.slice (some ⟨ga, 0, none⟩) n ca) n xs) := ⟨_, own_base (own_keep HA7.out (fun k hk => hb8.block k (HA7.out.lt k hk).2)) sB⟩
        have HO8 : Hid (∃ ys, w8.ownsRow w.heap.size 43 2 (.slice adb M cb) M ys) := ⟨_, own_base (own_keep HO7.out (fun k hk => hb8.block k (HO7.out.lt k hk).2)) (by omega)⟩
        have HB8 := hide (HB7.out.trans (below_up hb8 HB7.out.size))
        have HGA : Hid (w.heap.size ≤ ga ∧ (Value.slice adb M cb).ownBlock ≠ some ga) := ⟨by omega, fun e => absurd (hgb ga e).1 (by omega)⟩
        have HGB : Hid (∀ k, (Value.slice adb M cb).ownBlock = some k → w.heap.size ≤ k) := fun k hk => by have := (hgb k hk).1; omega
        clear hown8 hgrow8 hb8 hrr hgaB hgb s1 s2 s3 s4 s5 s6 s7 sB HA7 HO7 HC7 HW7 HN7 HD7 HD6 HD5 HD4 HD3 HD2 HD1 HD HL1 HL2 HL3 HL4 HL5 HL6 HL7 HB7 HB6 HB5 HB4 HB3 HB2 HB1 HB HO1 HO2 HAB3 HAB4 HAN hsz
        go_wp2_with fail
        go_loopw [16] (fun u wx => ∃ i : Nat, u = .int .i64 (i : Int) ∧ i ≤ n ∧ Hid (∃ xs, wx.ownsRow w.heap.size 9 1 (.slice (some ⟨ga, 0, none⟩) n ca) n xs) ∧ Hid (∃ ys, wx.ownsRow w.heap.size 43 2 (.slice adb M cb) M ys) ∧ Hid (Kp w.heap.size wx (fun k => k = ga ∨ (Value.slice adb M cb).ownBlock = some k) b F d adc abc adw abw adn abn adr abr) ∧ Hid (Below w.heap.size w wx)) (fun u _ => (n - (intOf u).toNat))
        case atStart => exact ⟨0, rfl, Nat.zero_le _, HA8, HO8, HK8, HB8⟩
        case round =>
          clear HA8 HO8 HK8 HB8
          obtain ⟨i, rfl, hi, HA, HO, HK, HB⟩ := hrel
          by_cases hil : i < n
          · obtain ⟨xs, hxs⟩ := HA.out
            have e1 := hxs.cellAt i (by omega)
            have hxl := hxs.1
            rw [List.getElem?_eq_getElem (by omega)] at e1
            obtain ⟨ya, e1'⟩ : ∃ y, wr.cell? ⟨ga, i, none⟩ = some y := ⟨_, e1⟩
            clear e1
            have e2 := hxs.frozenAt i
            have HA' : Hid (∃ xs, (wr.setCell ⟨ga, i, none⟩ (.string ⟨#[120]⟩)).ownsRow w.heap.size 9 1 (.slice (some ⟨ga, 0, none⟩) n ca) n xs) := ⟨_, (hxs.stored i (.string ⟨#[120]⟩)).1⟩
            have HO' : Hid (∃ ys, (wr.setCell ⟨ga, i, none⟩ (.string ⟨#[120]⟩)).ownsRow w.heap.size 43 2 (.slice adb M cb) M ys) := by
              obtain ⟨ys, hys⟩ := HO.out
              exact ⟨ys, own_keep hys (fun k hk => Below.heap_setCell _ _ _ k (fun e => HGA.out.2 (by rw [← (show k = ga from e)]; exact hk)))⟩
            have HK' := hide (HK.out.mv ((Mv.refl wr).set (a := ⟨ga, i, none⟩) (.inl rfl) (.string ⟨#[120]⟩)))
            have HB' : Hid (Below w.heap.size w (wr.setCell ⟨ga, i, none⟩ (.string ⟨#[120]⟩))) := HB.out.setCell HGA.out.1 _
            clear hxs hxl
            go_wp2_with fail
            exact ⟨⟨i + 1, by go_num, by omega, HA', HO', HK', HB'⟩, by simp [intOf]; omega⟩
          · have ei : n = i := by omega
            subst ei
            clear hi hil
            go_wp2_with fail
            go_loopw [17] (fun u wx => ∃ i : Nat, u = .int .i64 (i : Int) ∧ i ≤ M ∧ Hid (∃ xs, wx.ownsRow w.heap.size 9 1 (.slice (some ⟨ga, 0, none⟩) n ca) n xs) ∧ Hid (∃ ys, wx.ownsRow w.heap.size 43 2 (.slice adb M cb) M ys) ∧ Hid (Kp w.heap.size wx (fun k => k = ga ∨ (Value.slice adb M cb).ownBlock = some k) b F d adc abc adw abw adn abn adr abr) ∧ Hid (Below w.heap.size w wx)) (fun u _ => (M - (intOf u).toNat))
            case atStart => exact ⟨0, rfl, Nat.zero_le _, HA, HO, HK, HB⟩
            case round =>
              clear HA HO HK HB
              obtain ⟨i, rfl, hi, HA, HO, HK, HB⟩ := hrel
              by_cases hil : i < M
              · obtain ⟨ys, hys⟩ := HO.out
                rcases own_form hys with ⟨_, h0⟩ | ⟨gb, cb', hv, _⟩
                · omega
                · injection hv with hv1 hv2 hv3
                  subst hv1; subst hv3
                  have e1 := hys.cellAt (i * 2) (by omega)
                  have e3 := hys.cellAt (i * 2 + 1) (by omega)
                  have hyl := hys.1
                  rw [List.getElem?_eq_getElem (by omega)] at e1 e3
                  obtain ⟨yb, e1'⟩ : ∃ y, wr.cell? ⟨gb, i * 2, none⟩ = some y := ⟨_, e1⟩
                  obtain ⟨yc, e3'⟩ : ∃ y, wr.cell? ⟨gb, i * 2 + 1, none⟩ = some y := ⟨_, e3⟩
                  clear e1 e3
                  have e2 := hys.frozenAt (i * 2)
                  have e4 := hys.frozenAt (i * 2 + 1)
                  have hs1 := (hys.stored (i * 2) (.int .i64 (-1))).1
                  have HO' : Hid (∃ ys, ((wr.setCell ⟨gb, i * 2, none⟩ (.int .i64 (-1))).setCell ⟨gb, i * 2 + 1, none⟩ (.string ⟨#[]⟩)).ownsRow w.heap.size 43 2 (.slice (some ⟨gb, 0, none⟩) M cb) M ys) := ⟨_, (hs1.stored (i * 2 + 1) (.string ⟨#[]⟩)).1⟩
                  have hgn : ga ≠ gb := fun e => HGA.out.2 (by rw [e]; rfl)
                  have HA' : Hid (∃ xs, ((wr.setCell ⟨gb, i * 2, none⟩ (.int .i64 (-1))).setCell ⟨gb, i * 2 + 1, none⟩ (.string ⟨#[]⟩)).ownsRow w.heap.size 9 1 (.slice (some ⟨ga, 0, none⟩) n ca) n xs) := by
                    obtain ⟨xs, hxs⟩ := HA.out
                    refine ⟨xs, own_keep hxs (fun k hk => ?_)⟩
                    have hkg : k ≠ gb := fun e => hgn (by simp only [Value.ownBlock] at hk; injection hk with hk; rw [hk]; exact e)
                    rw [Below.heap_setCell _ _ _ k hkg, Below.heap_setCell _ _ _ k hkg]
                  have HK' := hide (HK.out.mv (((Mv.refl wr).set (a := ⟨gb, i * 2, none⟩) (.inr rfl) (.int .i64 (-1))).set (a := ⟨gb, i * 2 + 1, none⟩) (.inr rfl) (.string ⟨#[]⟩)))
                  have HB' : Hid (Below w.heap.size w ((wr.setCell ⟨gb, i * 2, none⟩ (.int .i64 (-1))).setCell ⟨gb, i * 2 + 1, none⟩ (.string ⟨#[]⟩))) := (HB.out.setCell (HGB.out gb rfl) _).setCell (HGB.out gb rfl) _
                  clear hys hyl hs1 hv2 hgn
                  go_wp2_with fail
                  exact ⟨⟨i + 1, by go_num, by omega, HA', HO', HK', HB'⟩, by simp [intOf]; omega⟩
              · have ei : M = i := by omega
                subst ei
                clear hi hil
                obtain ⟨xs, hxs⟩ := HA.out
                have HXS := hide hxs
                clear hxs
                go_upto_region 25 with (at_builtin; refine wpList_append_own _ rfl _ _ 22 rfl w.heap.size 9 iS (.string ByteArray.empty) 1 16 Try.underlying22 hiS zS0 zS1 zS2 rfl (by decide) (.slice (some ⟨ga, 0, none⟩) n ca) n xs rfl (HXS.out.alloc _) ⟨wr.heap.size, 0, none⟩ 1 1 [.string ⟨#[121]⟩] rfl rfl (one_new _ _ _) (by intro u hu; simp at hu; subst hu; rfl) (by unfold maxLen; omega) (by omega) (by rw [World.size_alloc]; have := HB.out.size; omega) ?_; intro va wa howna hgrowa hnila)
                obtain ⟨adA, cA, rfl⟩ := own_slice howna
                have hma : Mv (fun k => k = ga ∨ (Value.slice adb M cb).ownBlock = some k) (fun k => (Value.slice adb M cb).ownBlock = some k) wr wa := mv_grown hgrowa (fun k hk => .inl (by simp only [Value.ownBlock] at hk; injection hk with hk; exact hk.symm)) (fun k hk => .inr hk)
                have HKa := hide (HK.out.mv hma)
                have HBa := hide (HB.out.trans (hma.below HB.out.size (fun k hk => hk.elim (fun e => by rw [e]; exact HGA.out.1) (HGB.out k))))
                have HOa : Hid (∃ ys, wa.ownsRow w.heap.size 43 2 (.slice adb M cb) M ys) := by
                  obtain ⟨ys, hys⟩ := HO.out
                  refine ⟨ys, own_keep hys (fun k hk => ?_)⟩
                  rw [hgrowa.block k (by rw [World.size_alloc]; have := (hys.lt k hk).2; omega) (fun e => HGA.out.2 (by simp only [Value.ownBlock] at e; injection e with e; rw [← e]; exact hk))]
                  exact Below.heap_alloc _ _ _ (hys.lt k hk).2
                obtain ⟨ys, hys⟩ := HOa.out
                have HYS := hide hys
                clear howna hgrowa hnila hma hys HK HB HO HA HOa HXS
                go_upto_region 26 with (at_builtin; refine wpList_append_own _ rfl _ _ 23 rfl w.heap.size 43 iW (.agg #[.int .i64 0, .string ByteArray.empty]) 2 24 Try.underlying23 hiW zW0 zW1 zW2 rfl (by decide) (.slice adb M cb) M ys rfl (HYS.out.alloc _) ⟨wa.heap.size, 0, none⟩ 1 1 [.int .i64 (-2), .string ⟨#[]⟩] rfl rfl (two_new _ _ _ _) (by intro u hu; simp at hu; rcases hu with rfl | rfl <;> rfl) (by unfold maxLen; omega) (by omega) (by rw [World.size_alloc]; have := HBa.out.size; omega) ?_; intro vb9 wb hownb hgrowb hnilb)
                obtain ⟨adB, cB, rfl⟩ := own_slice hownb
                have hmb : Mv (fun k => (Value.slice adb M cb).ownBlock = some k) (fun _ => False) wa wb := mv_grown hgrowb (fun k hk => hk) (fun k hk => hk.elim)
                have HKb := hide (HKa.out.mv hmb)
                have HBb := hide (HBa.out.trans (hmb.below HBa.out.size (fun k hk => HGB.out k hk)))
                clear hownb hgrowb hnilb hmb HKa HBa HYS
                have HT1 := hide (same_len (cap := cc) (cap' := cn) HKb.out.rc HKb.out.rn HSl.out (by omega))
                go_wp2_with fail
                refine HT1.out.mono ?_
                rintro e wc ⟨rfl, hbc⟩
                have HKc := hide (HKb.out.below hbc)
                have HBc := hide (HBb.out.trans (below_up hbc HBb.out.size))
                have HT2 := hide (sameRaw_len (cap := cw) (cap' := cr) HKc.out.rw HKc.out.rr HM.out (by omega))
                clear hbc HT1 HKb HBb
                go_wp2_with fail
                refine HT2.out.mono ?_
                rintro e wd ⟨rfl, hbd⟩
                have HKd := hide (HKc.out.below hbd)
                have HBd := hide (HBc.out.trans (below_up hbd HBc.out.size))
                have HT3 := hide (sectors_len HKd.out.hd rfl HSl.out)
                clear hbd HT2 HKc HBc
                go_wp2_with fail
                refine HT3.out.mono ?_
                rintro e we ⟨ade, ce, abe, rfl, hre, _, hbe⟩
                have HKe := hide (HKd.out.below hbe)
                have HBe := hide (HBd.out.trans (below_up hbe HBd.out.size))
                have HT4 := hide (same_len (cap := ce) (cap' := cn) hre HKe.out.rn HSl.out (by omega))
                clear hbe hre HT3 HKd HBd
                go_wp2_with fail
                refine HT4.out.mono ?_
                rintro e wf ⟨rfl, hbf⟩
                have HKf := hide (HKe.out.below hbf)
                have HBf := hide (HBe.out.trans (below_up hbf HBe.out.size))
                have HT5 := hide (raw_len HKf.out.hd rfl HM.out (by omega))
                clear hbf HT4 HKe HBe
                go_wp2_with fail
                refine HT5.out.mono ?_
                rintro e wg ⟨adg, cg, abg, rfl, hrg, _, hbg⟩
                have HKg := hide (HKf.out.below hbg)
                have HBg := hide (HBf.out.trans (below_up hbg HBf.out.size))
                have HT6 := hide (sameRaw_len (cap := cg) (cap' := cr) hrg HKg.out.rr HM.out (by omega))
                clear hbg hrg HT5 HKf HBf
                go_wp2_with fail
                refine HT6.out.mono ?_
                rintro e wh ⟨rfl, hbh⟩
                have HBh := hide (HBg.out.trans (below_up hbh HBg.out.size))
                clear hbh HT6 HKg HBg
                go_wp2_with fail
                refine (fixed_true wh).mono ?_
                rintro e wi ⟨rfl, hbi⟩
                have HBi := hide (HBh.out.trans (below_up hbi HBh.out.size))
                clear hbi
                go_wp2
                go_ret
                exact ⟨rfl, HBi.out⟩
  · have HN := hide (new_no (w := w) hz)
    have HN2 := hide (rnew_no (w := w) hz)
    have HFX := hide (fixed_true w)
    clear h3
    go_enter Try.func5, Try.ntmps5
    go_wp2_with (first
      | (go_at_call 20; refine HN.out.mono ?_; rintro e w2 ⟨rfl, rfl⟩)
      | (go_at_call 21; refine HN2.out.mono ?_; rintro e w2 ⟨rfl, rfl⟩)
      | (go_at_call 8; refine HFX.out.mono ?_; rintro e w3 ⟨rfl, hb3⟩; have HB3 := hide hb3; clear hb3))
    go_ret
    exact ⟨rfl, HB3.out⟩
end Go.Proofs.Ytnhibcadenmglab
