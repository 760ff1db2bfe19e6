import Derived.Test.YteckkaapibbpcaaChAn
namespace Go.Proofs.Yteckkaapibbpcaa
open Go.RowKit

theorem run_append_nothing {P : Program} {w : World} (base : Nat) (t ty e : TypeId) (i : TypeInfo) (size c : Nat) (ht : P.underlying t = some (.slice e)) (hi : P.info? e = some i)
    (v : Value) (n : Nat) (xs : List Value) (hown : w.ownsRow base e size v n xs) : (Builtin.append_ #[t, t] ty #[v, .slice none 0 c]).run P w = .ok v w := by
  rcases hown.2 with ⟨rfl, rfl⟩ | ⟨g, cap, cur, rfl, _, _, hnc, _⟩
  · simp [Builtin.append_, run_underlying ht, sizeOf, typeInfo, hi, Builtin.lenOf, Builtin.firstCells]
  · simp [Builtin.append_, run_underlying ht, sizeOf, typeInfo, hi, Builtin.lenOf, Builtin.firstCells, hnc, storeCells]
/-- append of what is read, nil or not -/
theorem wpList_append_read {P : Program} {w : World} {ops : Array Oper} {rest : List Oper} {o : Oper} {a : Act} {Q : Exit → Act → World → Prop} (hgd : o.guard = none) (s x : Operand) (t : TypeId)
    (ho : o.op = .call { callee := .builtin .append, args := #[s, x], argTypes := #[t, t] })
    (base : Nat) (e : TypeId) (i : TypeInfo) (z : Value) (size bytes : Nat) (ht : P.underlying t = some (.slice e)) (hi : P.info? e = some i) (hz : i.zero = some z)
    (hsize : i.size = size) (hby : i.bytes = bytes) (hzs : z.cells.size = size) (hsz : 0 < size)
    (v : Value) (n : Nat) (xs : List Value) (hs : a.eval s = v) (hown : w.ownsRow base e size v n xs)
    (ad : Option Addr) (m c : Nat) (ys : List Value) (hx : a.eval x = .slice ad m c) (hlen : ys.length = m * size) (hnone : ad = none → m = 0) (hsrc : ∀ a0, ad = some a0 → ∀ j u, ys[j]? = some u → w.cell? (a0.add j) = some u) (h1 : ∀ u ∈ ys, u.oneCell' = true)
    (h63 : n + m ≤ maxLen) (hbytes : (n + m) * bytes ≤ 140737488355328) (hbase : base ≤ w.heap.size)
    (h : ∀ v' w', w'.ownsRow base e size v' (n + m) (xs ++ ys) → w.grownBy w' v.ownBlock → wpList P ops Q rest (a.put o.dst v') w') : wpList P ops Q (o :: rest) a w := by
  cases ad with
  | none =>
    obtain rfl := hnone rfl
    obtain rfl : ys = [] := List.length_eq_zero_iff.1 (by rw [hlen, Nat.zero_mul])
    have hrun := run_append_nothing (P := P) (w := w) base t o.type e i size c ht hi v n xs hown
    refine wpList_plain hgd fun K hK => ?_
    unfold Oper.wp
    simp [execOp, ho, resolve, invoke, builtin, hs, hx, hrun, Result.andThen]
    exact hK _ _ (h v w (by rw [Nat.add_zero, List.append_nil]; exact hown) ⟨rfl, rfl, rfl, Nat.le_refl _, fun _ _ _ => rfl⟩)
  | some a0 =>
    refine wpList_append_own _ hgd s x t ho base e i z size bytes ht hi hz hsize hby hzs hsz v n xs hs hown a0 m c ys hx hlen (hsrc a0 rfl) h1 h63 hbytes hbase ?_
    intro v' w' h2 h3 _
    exact h v' w' h2 h3

/-- the document's sender: all texts -/
def dcs (s : Sn) (n : Nat) (ad : Option Addr) (cap : Nat) : Array Value := #[.int .i64 s.wd, .int .i64 s.rs, .slice ad n cap, .int .i64 s.go, .int .i64 s.said, .int .i64 s.ti]
structure Rb (w : World) (x : Nat) (s : Sn) (T : List ByteArray) (ad : Option Addr) (cap X o : Nat) : Prop where
  cb : w.heap[x]? = some (.cells (dcs s T.length ad cap) 37 (0, 0))
  rs : Rs w ad cap X o T
  hi : Hist T s
section
variable {w : World} {x : Nat} {s : Sn} {T : List ByteArray} {ad : Option Addr} {cap X o : Nat}
theorem Rb.lt (h : Rb w x s T ad cap X o) : x < w.heap.size := lt_of_block h.cb
theorem Rb.c0 (h : Rb w x s T ad cap X o) : w.cell? ⟨x, 0, none⟩ = some (.int .i64 (s.wd : Int)) := by have h := h.cb; simp [World.cell?, h, dcs]
theorem Rb.c1 (h : Rb w x s T ad cap X o) : w.cell? ⟨x, 1, none⟩ = some (.int .i64 (s.rs : Int)) := by have h := h.cb; simp [World.cell?, h, dcs]
theorem Rb.c2 (h : Rb w x s T ad cap X o) : w.cell? ⟨x, 2, none⟩ = some (.slice ad T.length cap) := by have h := h.cb; simp [World.cell?, h, dcs]
theorem Rb.c3 (h : Rb w x s T ad cap X o) : w.cell? ⟨x, 3, none⟩ = some (.int .i64 (s.go : Int)) := by have h := h.cb; simp [World.cell?, h, dcs]
theorem Rb.c4 (h : Rb w x s T ad cap X o) : w.cell? ⟨x, 4, none⟩ = some (.int .i64 (s.said : Int)) := by have h := h.cb; simp [World.cell?, h, dcs]
theorem Rb.c5 (h : Rb w x s T ad cap X o) : w.cell? ⟨x, 5, none⟩ = some (.int .i64 (s.ti : Int)) := by have h := h.cb; simp [World.cell?, h, dcs]
theorem Rb.z (h : Rb w x s T ad cap X o) (k : Nat) : w.frozen? ⟨x, k, none⟩ = false := by have h := h.cb; simp [World.frozen?, h]
theorem Rb.ne (h : Rb w x s T ad cap X o) (h0 : 0 < cap) : X ≠ x := by
  obtain ⟨cur, hc, _⟩ := h.rs.blk h0
  exact blk_ne hc h.cb (by decide)
theorem Rb.drewN (h : Rb w x s T ad cap X o) (n : Nat) : Rb (w.drewN n) x s T ad cap X o := ⟨h.cb, h.rs.keep fun _ => rfl, h.hi⟩
theorem Rb.below {w' : World} (h : Rb w x s T ad cap X o) (hb : Below w.heap.size w w') : Rb w' x s T ad cap X o := ⟨(hb.block x h.lt).trans h.cb, h.rs.keep fun h0 => hb.block X (h.rs.lt h0), h.hi⟩
theorem Rb.set {s' : Sn} (h : Rb w x s T ad cap X o) {i : Nat} {v : Value} (hd : (dcs s T.length ad cap).setIfInBounds i v = dcs s' T.length ad cap) (hh : Hist T s') : Rb (w.setCell ⟨x, i, none⟩ v) x s' T ad cap X o :=
  ⟨by rw [← hd]; exact heap_set_self w x i _ _ _ _ h.cb, h.rs.keep fun h0 => Below.heap_setCell _ ⟨x, i, none⟩ _ X (h.ne h0), hh⟩
end
def RNP (a c : Int) (w : World) (e : Ending) (w' : World) : Prop :=
  (¬ may a c ∧ e = .returned (.tuple #[.pointer none, .int .i64 140]) ∧ w' = w) ∨ (may a c ∧ e = .returned (.tuple #[.pointer (some ⟨w.heap.size, 0, none⟩), .int .i64 0]) ∧ Rb w' w.heap.size (newS a.toNat c.toNat) [] none 0 0 0 ∧ Below w.heap.size w w')
theorem RNP.no {x y : Int} {w : World} (h : ¬ may x y) : RNP x y w (.returned (.tuple #[.pointer none, .int .i64 140])) w := .inl ⟨h, rfl, rfl⟩
set_option maxHeartbeats 1000000 in
theorem rnew_any (w : World) {x y : Int} (hx : -9223372036854775808 ≤ x ∧ x ≤ 9223372036854775807) (hy : -9223372036854775808 ≤ y ∧ y ≤ 9223372036854775807) :
    Calls Try.prog 7 #[.int .i64 x, .int .i64 y] w (RNP x y w) := by
  by_cases h1 : x < 1
  · go_enter Try.func7, Try.ntmps7
    go_wp2
    go_ret2
    exact RNP.no (fun h => by obtain ⟨k1, k2, k3, k4⟩ := h; omega)
  by_cases h2 : 8 < x
  · go_enter Try.func7, Try.ntmps7
    go_wp2
    go_ret2
    exact RNP.no (fun h => by obtain ⟨k1, k2, k3, k4⟩ := h; omega)
  by_cases h3 : y < 1
  · go_enter Try.func7, Try.ntmps7
    go_wp2
    go_ret2
    exact RNP.no (fun h => by obtain ⟨k1, k2, k3, k4⟩ := h; omega)
  by_cases h4 : 16 < y
  · go_enter Try.func7, Try.ntmps7
    go_wp2
    go_ret2
    exact RNP.no (fun h => by obtain ⟨k1, k2, k3, k4⟩ := h; omega)
  obtain ⟨a, rfl⟩ : ∃ a : Nat, x = (a : Int) := ⟨x.toNat, by omega⟩
  obtain ⟨c, rfl⟩ : ∃ c : Nat, y = (c : Int) := ⟨y.toNat, by omega⟩
  go_enter Try.func7, Try.ntmps7
  go_wp2
  go_ret2
  exact .inr ⟨⟨by omega, by omega, by omega, by omega⟩, rfl, ⟨heap_alloc_new w _, Rs.nil _, ⟨[], rfl, rfl⟩⟩, below_alloc w _⟩
set_option maxHeartbeats 1000000 in
theorem rtick_any {w : World} {x : Nat} {s : Sn} {T : List ByteArray} {ad : Option Addr} {cap X o : Nat} (hk : s.ok) (h : Rb w x s T ad cap X o) :
    Calls Try.prog 24 #[.pointer (some ⟨x, 0, none⟩)] w fun e w' => e = .returned (.tuple #[]) ∧ Rb w' x s.tick T ad cap X o ∧ On x w w' := by
  have c1 := h.c5
  have z1 := h.z 5
  have h16 : s.ti ≤ 16 := Nat.le_trans hk.t hk.r2
  have HH := hide h
  clear hk h
  by_cases ht : s.ti = 0
  · have e1 : s.tick = s := by unfold Sn.tick; rw [ht]; cases s; simp_all
    rw [e1]
    rw [ht] at c1
    clear ht e1
    go_enter Try.func24, Try.ntmps24
    go_wp2
    go_end0
    exact ⟨rfl, HH.out, On.refl x w⟩
  · obtain ⟨n, hn⟩ : ∃ n, s.ti = n + 1 := ⟨s.ti - 1, by omega⟩
    have HN := hide hn
    rw [hn] at c1
    have hn16 : n ≤ 15 := by omega
    clear ht hn
    go_enter Try.func24, Try.ntmps24
    go_wp2
    go_end0
    refine ⟨rfl, HH.out.set ?_ HH.out.hi.tick, (On.refl x w).set _ _⟩
    unfold Sn.tick dcs
    simp [HN.out]
set_option maxHeartbeats 1000000 in
theorem rroom_any {w : World} {x : Nat} {s : Sn} {T : List ByteArray} {ad : Option Addr} {cap X o : Nat} (hk : s.ok) (h : Rb w x s T ad cap X o) :
    Calls Try.prog 26 #[.pointer (some ⟨x, 0, none⟩)] w fun e w' => e = .returned (.bool (decide (s.R.length < s.wd))) ∧ ∃ m, w' = w.drewN m := by
  have c0 := h.c0
  have c2 := h.c2
  have c3 := h.c3
  have hl := h.hi.len
  have h32 : s.R.length ≤ 32 := by have := hk.l; omega
  have hq2 : (T.length : Int) - (s.go : Int) = (s.R.length : Int) := by rw [← hl]; unfold Sn.len; omega
  clear h hk hl
  go_enter Try.func26, Try.ntmps26
  go_wp2
  go_quiet (fail)
  go_wp2
  go_ret
  exact ⟨by simp, _, rfl⟩
def RPut (x : Nat) (s : Sn) (T : List ByteArray) (t : ByteArray) (w w' : World) : Prop :=
  (s.putE t ≠ 0 ∧ w' = w) ∨ (s.putE t = 0 ∧ ∃ ad' cap' X' o', Rb w' x (s.add t) (T ++ [t]) ad' cap' X' o' ∧ (0 < cap' → w.heap.size ≤ X') ∧ On x w w')
theorem own_app0 {w : World} {base : Nat} {T : List ByteArray} {v : Value} {n : Nat} (h : w.ownsRow base 9 1 v n ([] ++ T.map Value.string)) (hn : n = T.length) : w.ownsRow base 9 1 v T.length (T.map Value.string) := by
  subst hn
  simpa using h
set_option maxHeartbeats 2000000 in
set_option maxRecDepth 8000 in
theorem rput_any {w : World} {x : Nat} {s : Sn} {T : List ByteArray} {ad : Option Addr} {cap X o : Nat} (hk : s.ok) (h : Rb w x s T ad cap X o) (t : ByteArray) :
    Calls Try.prog 23 #[.pointer (some ⟨x, 0, none⟩), .string t] w fun e w' => e = .returned (.int .i64 (s.putE t)) ∧ RPut x s T t w w' := by
  have c2 := h.c2
  have HL := hide h.hi.len
  have HH := hide h
  have hl32 : T.length ≤ 32 := by rw [← h.hi.len]; exact hk.l
  clear hk h
  by_cases h1 : 32 < t.size
  · have e1 : s.putE t = 142 := if_pos h1
    rw [e1]
    have HE := hide e1
    clear e1
    go_enter Try.func23, Try.ntmps23
    go_wp2
    go_ret
    exact ⟨rfl, .inl ⟨by rw [HE.out]; decide, rfl⟩⟩
  · by_cases h2 : 32 ≤ s.len
    · have e1 : s.putE t = 141 := by unfold Sn.putE; rw [if_neg h1, if_pos h2]
      rw [e1]
      have HE := hide e1
      rw [HL.out] at h2
      clear e1
      go_enter Try.func23, Try.ntmps23
      go_wp2
      go_ret
      exact ⟨rfl, .inl ⟨by rw [HE.out]; decide, rfl⟩⟩
    · have e1 : s.putE t = 0 := by unfold Sn.putE; rw [if_neg h1, if_neg h2]
      rw [e1]
      have HE := hide e1
      rw [HL.out] at h2
      clear e1
      obtain ⟨iS, hiS, zS0, zS1, zS2⟩ := info_parts Try.infoS
      have hlt := HH.out.lt
      have HB1 : Hid (Below w.heap.size w (w.alloc (.cells #[] 9))) := hide (below_alloc w _)
      have HO1 : Hid ((w.alloc (.cells #[] 9)).ownsRow w.heap.size 9 1 (.slice (some ⟨w.heap.size, 0, none⟩) 0 0) 0 []) := hide (own_str0 (heap_alloc_new w _) (Nat.le_refl _))
      have HR1 := hide (HH.out.rs.below HB1.out)
      go_enter Try.func23, Try.ntmps23
      go_wp2_with (first
        | (at_builtin; refine wpList_append_read rfl (.tmp 16) (.tmp 20) 35 rfl w.heap.size 9 iS (.string ByteArray.empty) 1 16 Try.underlying35 hiS zS0 zS1 zS2 rfl (by decide) (.slice (some ⟨w.heap.size, 0, none⟩) 0 0) 0 [] rfl HO1.out ad T.length cap (T.map Value.string) rfl (by simp) (fun hn => by by_cases h0 : 0 < cap; (have h3 := HH.out.rs.at_ h0; rw [hn] at h3; cases h3); have := HH.out.rs.le; omega) HR1.out.olds (by intro u hu; simp at hu; obtain ⟨_, _, rfl⟩ := hu; rfl) (by unfold maxLen; omega) (by omega) (by rw [World.size_alloc]; omega) ?_; intro v2 w2 hown2 hgr2; have HO2 := hide (own_app0 hown2 (by omega)); have HB2 := hide (HB1.out.grown hgr2 (by rw [World.size_alloc]; omega) (fun k hk => by simp [Value.ownBlock] at hk; omega)); obtain ⟨ad2, cap2, rfl⟩ := own_slice HO2.out; have HO3 : Hid ((w2.alloc (.cells #[.string t] 9)).ownsRow w.heap.size 9 1 (.slice ad2 T.length cap2) T.length (T.map Value.string)) := hide (own_below HO2.out (below_alloc w2 _)); have hsz2 := HB2.out.size; have hblk2 := (HB2.out.block x hlt).trans HH.out.cb; clear hown2 hgr2)
        | (at_builtin; refine wpList_append_lies _ rfl (.tmp 23) (.tmp 25) 35 rfl w.heap.size 9 iS (.string ByteArray.empty) 1 16 Try.underlying35 hiS zS0 zS1 zS2 rfl (by decide) (.slice ad2 T.length cap2) T.length (T.map Value.string) rfl HO3.out ⟨w2.heap.size, 0, none⟩ 1 1 [.string t] rfl rfl (one_new _ _ _) (by intro u hu; simp at hu; subst hu; rfl) (by decide) (by unfold maxLen; omega) (by omega) (by rw [World.size_alloc]; omega) _ rfl ?_; intro g4 cap4 w4 hown4 hgr4 hat4 hlt4; have HO4 := hide hown4; have HB4 := hide ((HB2.out.alloc hsz2 _).grown hgr4 (by rw [World.size_alloc]; omega) (fun k hk => (HO2.out.lt k hk).1)); have hb4 := (HB4.out.block x hlt).trans HH.out.cb; have y2 : w4.cell? ⟨x, 2, none⟩ = some (.slice ad T.length cap) := (by simp only [World.cell?, hb4]; rfl); have y3 : w4.frozen? ⟨x, 2, none⟩ = false := (by simp [World.frozen?, hb4]); have HC4 := hide hb4; clear hown4 hgr4 hat4 hlt4 hb4 hblk2))
      go_ret
      refine ⟨rfl, .inr ⟨HE.out, some ⟨g4, 0, none⟩, cap4, g4, 0, ⟨?_, ?_, HH.out.hi.add t⟩, ?_, (On.of_below HB4.out).set _ _⟩⟩
      · have e2 := heap_set_self w4 x 2 (.slice (some ⟨g4, 0, none⟩) (T.length + 1) cap4) _ _ _ HC4.out
        rw [List.length_append]
        exact e2
      · obtain ⟨g, c, cur, hv, hbg, hg, hle, hs, ht⟩ := own_form HO4.out (by omega)
        injection hv with hv1 hv2 hv3
        injection hv1 with hv1
        injection hv1 with hv1
        subst hv1; subst hv3
        have hne : g4 ≠ x := by omega
        exact (own_rs (R := T ++ [t]) hg (by simpa using hle) hs (by rw [List.length_append]; rw [show T.length + [t].length = T.length + 1 from rfl, ht]; simp)).keep fun _ => Below.heap_setCell _ ⟨x, 2, none⟩ _ g4 hne
      · intro _
        exact (HO4.out.lt g4 rfl).1
set_option maxHeartbeats 2000000 in
set_option maxRecDepth 8000 in
theorem rack_any {w : World} {x : Nat} {s : Sn} {T : List ByteArray} {ad : Option Addr} {cap X o : Nat} (hk : s.ok) (h : Rb w x s T ad cap X o) (k : Int) (hk6 : -9223372036854775808 ≤ k ∧ k ≤ 9223372036854775807) :
    Calls Try.prog 25 #[.pointer (some ⟨x, 0, none⟩), .int .i64 k] w fun e w' => e = .returned (.bool (s.ackB k)) ∧ Rb w' x (s.ack k) T ad cap X o ∧ On x w w' := by
  have HK := hide hk
  have HH := hide h
  have c3 := h.c3
  have c4 := h.c4
  have c2 := h.c2
  have z3 := h.z 3
  have z5 := h.z 5
  clear h hk
  have no : s.ackB k = false → s.ack k = s := fun hb => by unfold Sn.ack; rw [hb]; rfl
  by_cases h1 : k ≤ (s.go : Int)
  · have e1 : s.ackB k = false := by
      cases hb : s.ackB k with
      | false => rfl
      | true => have := Sn.ackB_iff.mp hb; omega
    rw [no e1, e1]
    clear e1 no
    go_enter Try.func25, Try.ntmps25
    go_wp2
    go_ret
    exact ⟨rfl, HH.out, On.refl x _⟩
  · have d1 : decide (k ≤ (s.go : Int)) = false := decide_eq_false h1
    by_cases h2 : (s.said : Int) < k
    · have e1 : s.ackB k = false := by
        cases hb : s.ackB k with
        | false => rfl
        | true => have := Sn.ackB_iff.mp hb; omega
      rw [no e1, e1]
      clear e1 no
      go_enter Try.func25, Try.ntmps25
      go_wp2
      go_ret
      exact ⟨rfl, HH.out, On.refl x _⟩
    · have d2 : decide ((s.said : Int) < k) = false := decide_eq_false h2
      have e1 : s.ackB k = true := Sn.ackB_iff.mpr ⟨by omega, by omega⟩
      rw [e1]
      have HA := hide (HH.out.hi.ack HK.out k)
      have hAk : s.ack k = { s with go := k.toNat, R := s.R.drop (k.toNat - s.go), ti := if k.toNat = s.len then 0 else s.ti } := by unfold Sn.ack; rw [if_pos e1]
      rw [HH.out.hi.len] at hAk
      obtain ⟨n, rfl⟩ : ∃ n : Nat, k = (n : Int) := ⟨k.toNat, by omega⟩
      rw [Int.toNat_natCast] at hAk
      have HAk := hide hAk
      clear e1 hAk h1 h2 no
      have d1 : decide (n ≤ s.go) = false := by simpa using d1
      have d2 : decide (s.said < n) = false := by simpa using d2
      by_cases h3 : n = T.length
      · have e3 : (n == T.length) = true := by simpa using h3
        have HN3 := hide h3
        clear h3
        have q5 := HH.out.c5
        go_enter Try.func25, Try.ntmps25
        go_wp2
        go_ret
        refine ⟨rfl, ?_, ((On.refl x w).set _ _).set _ _⟩
        have i1 := HH.out.cb
        have i2 := heap_set_self w x 3 (.int .i64 ((n : Nat) : Int)) _ _ _ i1
        have i3 := heap_set_self _ x 5 (.int .i64 0) _ _ _ i2
        refine ⟨?_, HH.out.rs.keep fun h0 => (Below.heap_setCell _ ⟨x, 5, none⟩ _ X (HH.out.ne h0)).trans (Below.heap_setCell _ ⟨x, 3, none⟩ _ X (HH.out.ne h0)), HA.out⟩
        rw [HAk.out, if_pos HN3.out]
        exact i3
      · have e3 : (n == T.length) = false := by simpa using h3
        have HN3 := hide h3
        clear h3
        go_enter Try.func25, Try.ntmps25
        go_wp2
        go_ret
        refine ⟨rfl, ?_, (On.refl x w).set _ _⟩
        have i2 := heap_set_self w x 3 (.int .i64 ((n : Nat) : Int)) _ _ _ HH.out.cb
        refine ⟨?_, HH.out.rs.keep fun h0 => Below.heap_setCell _ ⟨x, 3, none⟩ _ X (HH.out.ne h0), HA.out⟩
        rw [HAk.out, if_neg HN3.out]
        exact i2
end Go.Proofs.Yteckkaapibbpcaa
