import Derived.Test.YtojghjgbnnkldaaMgAU
import Derived.Test.YtojghjgbnnkldaaMgAI

section
namespace Go.Proofs.Ytojghjgbnnkldaa
open Go.RowKit Go.Shelf
open Wl (Hd WS Log)

/-- a number, counted round -/
def pl (n : Int) (m : Nat) : Nat := (if n.tmod (m : Int) < 0 then n.tmod (m : Int) + m else n.tmod (m : Int)).toNat
theorem pl_lt {n : Int} {m : Nat} (h0 : 0 < m) : pl n m < m := by
  have ht1 : n.tmod (m : Int) < (m : Int) := Int.tmod_lt_of_pos _ (by omega)
  unfold pl
  split <;> omega
set_option maxHeartbeats 400000 in
theorem place9_any {w : World} {n : Int} {m : Nat} (h0 : 0 < m) (h1 : m ≤ 1000) (_ : -9223372036854775808 ≤ n ∧ n ≤ 9223372036854775807) :
    Calls Try.prog 24 #[.int .i64 n, .int .i64 (m : Int)] w fun e w' => e = .returned (.int .i64 (pl n m : Int)) ∧ w' = w := by
  have ht1 : n.tmod (m : Int) < (m : Int) := Int.tmod_lt_of_pos _ (by omega)
  have ht2 : -(m : Int) < n.tmod (m : Int) := Int.lt_tmod_of_pos _ (by omega)
  have hz : (m : Int) ≠ 0 := by omega
  have hz1 : (m : Int) ≠ -1 := by omega
  unfold pl
  generalize ht : n.tmod (m : Int) = t at *
  obtain ⟨r, hr⟩ : ∃ r : Int, (((if t < 0 then t + m else t).toNat : Nat) : Int) = r := ⟨_, rfl⟩
  rw [hr]
  by_cases h : t < 0
  · have b0 : decide (t < 0) = true := by simpa using h
    have HR : Hid (r = t + m) := by rw [if_pos h] at hr; show r = t + m; omega
    clear hr
    go_enter Try.func24, Try.ntmps24
    go_wp2
    go_ret
    rw [HR.out]
    exact ⟨rfl, rfl⟩
  · have b0 : decide (t < 0) = false := by simpa using h
    have HR : Hid (r = t) := by rw [if_neg h] at hr; show r = t; omega
    clear hr
    go_enter Try.func24, Try.ntmps24
    go_wp2
    go_ret
    rw [HR.out]
    exact ⟨rfl, rfl⟩
theorem armed_self {d : D.DS} (h : d.left = 0) : armed d 0 d.byt = d := by
  obtain ⟨S, R, de, le, by'⟩ := d
  simp only at h
  subst h
  rfl
theorem arm_eq {d : D.DS} (hd : d.dead = false) {n : Nat} {B : Int} (h0 : 0 ≤ B) (h1 : B ≤ 128) : d.arm (n : Int) B = (0, armed d n B) := by
  unfold D.DS.arm
  rw [if_neg (by simp [hd]), if_neg (by omega)]
  rfl
/-- without a cut -/
theorem ConX.append_calm {d : D.DS} {ws : WS} {s : ByteArray} {l : List ByteArray} (h : ConX d ws s l) {r : ByteArray} (h1 : 1 ≤ r.size) (h2 : r.size ≤ 2048) (hr : r.size ≤ Wl.room d.S.length ws.h) (hn : ws.h.num < 1099511627776) :
    (Wl.append d ws r).1 = 0 ∧ ConX (Wl.append d ws r).2.1 (Wl.append d ws r).2.2 s (l ++ [r]) ∧ (Wl.append d ws r).2.2.h.num = ws.h.num + 1 ∧ (Wl.append d ws r).2.1.R.length ≤ d.R.length + 600 ∧ (Wl.append d ws r).2.1.S.length = d.S.length := by
  obtain ⟨a1, a2, a3, a4, a5⟩ := h.con.append h1 h2 hr hn
  have E := (h.appends hn r (n := 0) (by decide) h.con.ok.b0 h.con.ok.b1).1
  rw [armed_self h.con.calm] at E
  refine ⟨a1, ⟨a2, ?_⟩, by rw [a3]; rfl, a4, a5⟩
  cases E with
  | no h0 => exact absurd a1 h0
  | yes _ _ _ hw _ hC => rw [hw]; exact hC.oth
  | last _ hn => omega
  | cut _ h1 => omega
theorem ConX.snapshot_calm {d : D.DS} {ws : WS} {s : ByteArray} {l : List ByteArray} (h : ConX d ws s l) {t : ByteArray} (ht : t.size ≤ min 17000 (Wl.hb d.S.length)) (hn : ws.h.num < 1099511627776) :
    (Wl.snapshot d ws t).1 = 0 ∧ ConX (Wl.snapshot d ws t).2.1 (Wl.snapshot d ws t).2.2 t [] ∧ (Wl.snapshot d ws t).2.2.h = Wl.hdS ws.h t ∧ (Wl.snapshot d ws t).2.1.R.length ≤ d.R.length + 600 ∧ (Wl.snapshot d ws t).2.1.S.length = d.S.length := by
  obtain ⟨a1, a2, a3, a4, a5⟩ := h.con.snapshot ht hn
  have E := (h.snaps hn t (n := 0) (by decide) h.con.ok.b0 h.con.ok.b1).1
  rw [armed_self h.con.calm] at E
  refine ⟨a1, ⟨a2, ?_⟩, a3, a4, a5⟩
  cases E with
  | no h0 => exact absurd a1 h0
  | yes _ _ _ hw _ hC => rw [hw]; exact hC.oth
  | last _ hn => omega
  | cut _ h1 => omega
/-- behind an append under a cut, and Revive: a log -/
theorem ConX.mended {d : D.DS} {ws : WS} {s : ByteArray} {l : List ByteArray} (h : ConX d ws s l) (hn : ws.h.num < 1099511627776) (r : ByteArray) {n : Nat} (hnn : n ≤ 9223372036854775807) {B : Int} (hB0 : 0 ≤ B) (hB1 : B ≤ 128) :
    ∃ ws' l', ConX (Wl.append (armed d n B) ws r).2.1.revive ws' s l' ∧ ws'.h.num ≤ ws.h.num + 1 ∧ (Wl.append (armed d n B) ws r).2.1.S.length = d.S.length ∧ (Wl.append (armed d n B) ws r).2.1.R.length ≤ d.R.length + 600 := by
  obtain ⟨E, hR⟩ := h.appends hn r hnn hB0 hB1
  cases E with
  | no _ _ hd _ =>
    rw [hd] at hR ⊢
    exact ⟨ws, l, h.same rfl (revive_ok (armed_ok h.con.ok hnn hB0 hB1)) rfl rfl, by omega, rfl, hR⟩
  | yes _ _ _ _ _ hC _ hl => exact ⟨_, _, hC, Nat.le_refl _, hl, hR⟩
  | last _ _ _ _ _ _ hC _ hl => exact ⟨_, _, hC, Nat.le_refl _, hl, hR⟩
  | cut _ _ _ _ _ _ _ hC _ hl => exact ⟨_, _, hC, by omega, hl, hR⟩
theorem ConX.ws {d : D.DS} {ws : WS} {s : ByteArray} {l : List ByteArray} (h : ConX d ws s l) : (⟨ws.h, l.length, false⟩ : WS) = ws := by
  have h1 := h.con.rc
  have h2 := h.con.gone
  obtain ⟨a, b, c⟩ := ws
  simp only at h1 h2
  rw [h1, h2]
theorem roomF_ge {left j : Nat} (h : (Pk.enc j).length + j ≤ left) : ∀ k, j ≤ k → j ≤ Wl.roomF left k := by
  intro k
  induction k with
  | zero => intro hk; omega
  | succ k ih =>
    intro hk
    rw [roomF_succ]
    split
    · exact hk
    · by_cases e : j = k + 1
      · rw [e] at h; omega
      · exact ih (by omega)
theorem room_two {n : Nat} {h : Hd} (hu : h.used + 3 ≤ Wl.hb n) : 2 ≤ Wl.room n h := by
  unfold Wl.room
  have : (Pk.enc 2).length = 1 := by rw [Pk.enc_lt (by decide)]; rfl
  exact roomF_ge (by omega) _ (by omega)
section
variable {w0 : World} {b W : Nat} {v : Value} {s : ByteArray} {l lr : List ByteArray} {d : D.DS} {ws : WS} {F : Nat → Prop} {N M : Nat} {w w' : World}
theorem TlI.more (h : TlI w0 b W v s l lr d ws F N w) (hM : N ≤ M) : TlI w0 b W v s l lr d ws F M w := ⟨h.con, by have := h.nm; omega, by have := h.rl; omega, h.dk, h.wm, h.nf, h.hW, h.own, h.bel⟩
theorem TlI.R2 (h : TlI w0 b W v s l lr d ws F N w) (hN : N ≤ 4000000) : (d.R.length + 600) * 24 ≤ 140737488355328 := by
  have h2 := h.rl
  exact Nat.le_trans (Nat.mul_le_mul_right 24 (show d.R.length + 600 ≤ 4000000000 by omega)) (by decide)
end
theorem con_formatX {n : Nat} (hf : Wl.Fits n) : ∃ d, Wl.fmt (D.fresh (List.replicate n D.zsec)) = (0, d) ∧ ConX d ⟨Wl.h1, 0, false⟩ ⟨#[]⟩ [] ∧ d.R.length = 1 ∧ d.S.length = n := by
  obtain ⟨d, h1, h2, h3, h4⟩ := con_format hf
  refine ⟨d, h1, ⟨h2, ?_⟩, h3, h4⟩
  obtain ⟨g1, g2, g3⟩ := hf
  have hl : (List.replicate n D.zsec).length = n := List.length_replicate
  have e : Wl.fmt (D.fresh (List.replicate n D.zsec)) = (D.fresh (List.replicate n D.zsec)).write 1 (Wl.headB Wl.h1) := by
    rw [fmt_yes rfl (by show Wl.Fits (List.replicate n D.zsec).length; rw [hl]; exact ⟨g1, g2, g3⟩)]
    show (match Wl.find (List.replicate n D.zsec) with | some _ => _ | none => _) = _
    rw [find_fresh n (by omega)]
  have ew := fresh_write (n := n) (by omega) (by omega)
  have hd := h1.symm.trans (e.trans ew)
  injection hd with _ hd
  rw [hd]
  show Oth (((List.replicate n D.zsec).set 1 (Wl.headB Wl.h1)).getD 0 ByteArray.empty) 1
  rw [getD_set_far (by decide), List.getD_eq_getElem?_getD, List.getElem?_replicate, if_pos (by omega)]
  exact oth_zero
set_option maxHeartbeats 1000000 in
set_option maxRecDepth 8000 in
theorem laidX_any (half : Nat) (h1 : 1 ≤ half) (h2 : half ≤ 512) (w : World) : Calls Try.prog 12 #[.int .i64 (half : Int)] w fun e w' => ∃ b W d F, e = .returned (.tuple #[.pointer (some ⟨b, 0, none⟩), .pointer (some ⟨W, 0, none⟩)]) ∧ TwI w b W [] d ⟨Wl.h1, 0, false⟩ F w' ∧ d.S.length = 2 + 2 * half ∧ ConX d ⟨Wl.h1, 0, false⟩ ⟨#[]⟩ [] := by
  have hhs : Wl.hs (2 + 2 * half) = half := by unfold Wl.hs; omega
  obtain ⟨d1, hf1, hX1, hR1, hS1⟩ := con_formatX (n := 2 + 2 * half) (by unfold Wl.Fits; rw [hhs]; omega)
  have hC1 := hX1.con
  have HX1 := hide hX1
  clear hX1
  have HN := hide (D.new_any (w := w) (n := 2 + 2 * half) (by omega) (by omega))
  have hcast : ((2 + 2 * half : Nat) : Int) = 2 + 2 * (half : Int) := by omega
  rw [hcast] at HN
  have HC1 := hide hC1
  have Hf1 := hide hf1
  have HR1 := hide hR1
  have HS1 := hide hS1
  clear hC1 hf1 hR1 hS1 hhs hcast
  go_enter Try.func12, Try.ntmps12
  go_wp2_with fail
  refine HN.out.mono ?_
  rintro e w1 ⟨b, F, rfl, hD, hB1⟩
  have HF := hide (format_any hD (by show (0 + 1) * 24 ≤ 140737488355328; decide))
  have HFl1 := hide hD.ftlow
  have HB1 := hide hB1
  clear hD hB1 HN
  rw [Hf1.out] at HF
  go_wp2_with fail
  refine HF.out.mono ?_
  rintro e w2 ⟨rfl, F2, hD2, hM2⟩
  have HB2 := hide (HB1.out.trans (hM2.below HB1.out.size HFl1.out))
  have HO := hide (open_any hD2)
  have HD2 := hide hD2
  clear hD2 hM2 HF
  go_wp2_with fail
  refine HO.out.mono ?_
  intro e w3 hP
  obtain ⟨hB3, W, ad3, cp3, rfl, hW, hWm, -, -⟩ := HC1.out.opens hP
  have HB3 := hide (HB2.out.trans (hB3.mono HB2.out.size))
  have h2s := HB2.out.size
  have hFW : ¬ F2 W := fun k => absurd (HD2.out.ftlt W k).2 (by omega)
  have HT : Hid (TwI w b W [] d1 ⟨Wl.h1, 0, false⟩ F2 w3) := hide ⟨HC1.out, rfl, by rw [HR1.out]; decide, HD2.out.below hB3, hWm, hFW, by omega, HB3.out⟩
  clear hP hB3 hWm HO HD2 HB1 HB2 HFl1 HB3 HC1 Hf1 HR1
  go_wp2_with fail
  go_ret2
  exact ⟨b, W, d1, F2, rfl, HT.out, HS1.out, HX1.out⟩
/-- a life, as the walk reads it -/
structure LifeV where
  aT : Option Addr
  cT : Nat
  tb : Nat
  tf : Nat
  T : List ByteArray
  aM : Option Addr
  cM : Nat
  mb : Nat
  mf : Nat
  M : List Int
  n : Int
  bt : Int
/-- lives that are read -/
structure Rl (w : World) (ad : Option Addr) (ab ao : Nat) (Q : List LifeV) : Prop where
  at_ : 0 < Q.length → ad = some ⟨ab, ao, none⟩
  c0 : ∀ i (h : i < Q.length), w.cell? ⟨ab, ao + i * 4, none⟩ = some (.slice Q[i].aT Q[i].T.length Q[i].cT)
  c1 : ∀ i (h : i < Q.length), w.cell? ⟨ab, ao + i * 4 + 1, none⟩ = some (.slice Q[i].aM Q[i].M.length Q[i].cM)
  c2 : ∀ i (h : i < Q.length), w.cell? ⟨ab, ao + i * 4 + 2, none⟩ = some (.int .i64 Q[i].n)
  c3 : ∀ i (h : i < Q.length), w.cell? ⟨ab, ao + i * 4 + 3, none⟩ = some (.int .i64 Q[i].bt)
  rs : ∀ i (h : i < Q.length), D.Rs w Q[i].aT Q[i].tb Q[i].tf Q[i].T
  ri : ∀ i (h : i < Q.length), Ri w Q[i].aM Q[i].mb Q[i].mf Q[i].M
  sz : ∀ i (h : i < Q.length) j (hj : j < Q[i].T.length), Q[i].T[j].size ≤ 1048576
  ln : ∀ i (h : i < Q.length), Q[i].T.length ≤ 1048576 ∧ Q[i].M.length ≤ 1048576
  bn : ∀ i (h : i < Q.length), -9223372036854775808 ≤ Q[i].n ∧ Q[i].n ≤ 9223372036854775807
  bb : ∀ i (h : i < Q.length), -9223372036854775808 ≤ Q[i].bt ∧ Q[i].bt ≤ 9223372036854775807
theorem Rl.lt {w : World} {ad : Option Addr} {ab ao : Nat} {Q : List LifeV} (h : Rl w ad ab ao Q) (h0 : 0 < Q.length) : ab < w.heap.size := World.block_lt_of_cell? _ _ (h.c0 0 h0)
end Go.Proofs.Ytojghjgbnnkldaa
end

section
namespace Go.Proofs.Ytojghjgbnnkldaa
open Go.RowKit Go.Shelf
open Wl (Hd WS Log)

theorem run_append_noth {P : Program} {w : World} (base : Nat) (t ty e : TypeId) (i : TypeInfo) (size c : Nat) (ht : P.underlying t = some (.slice e)) (hi : P.info? e = some i)
    (v : Value) (n : Nat) (xs : List Value) (hown : w.ownsRow base e size v n xs) : (Builtin.append_ #[t, t] ty #[v, .slice none 0 c]).run P w = .ok v w := by
  rcases hown.2 with ⟨rfl, rfl⟩ | ⟨g, cap, cur, rfl, _, _, hnc, _⟩
  · simp [Builtin.append_, run_underlying ht, sizeOf, typeInfo, hi, Builtin.lenOf, Builtin.firstCells]
  · simp [Builtin.append_, run_underlying ht, sizeOf, typeInfo, hi, Builtin.lenOf, Builtin.firstCells, hnc, storeCells]
/-- append of what is read, nil or not -/
theorem wpList_append_rd {P : Program} {w : World} {ops : Array Oper} {rest : List Oper} {o : Oper} {a : Act} {Q : Exit → Act → World → Prop} (hgd : o.guard = none) (s x : Operand) (t : TypeId)
    (ho : o.op = .call { callee := .builtin .append, args := #[s, x], argTypes := #[t, t] })
    (base : Nat) (e : TypeId) (i : TypeInfo) (z : Value) (size bytes : Nat) (ht : P.underlying t = some (.slice e)) (hi : P.info? e = some i) (hz : i.zero = some z)
    (hsize : i.size = size) (hby : i.bytes = bytes) (hzs : z.cells.size = size) (hsz : 0 < size)
    (v : Value) (n : Nat) (xs : List Value) (hs : a.eval s = v) (hown : w.ownsRow base e size v n xs)
    (ad : Option Addr) (m c : Nat) (ys : List Value) (hx : a.eval x = .slice ad m c) (hlen : ys.length = m * size) (hnone : ad = none → m = 0) (hsrc : ∀ a0, ad = some a0 → ∀ j u, ys[j]? = some u → w.cell? (a0.add j) = some u) (h1 : ∀ u ∈ ys, u.oneCell' = true)
    (h63 : n + m ≤ maxLen) (hbytes : (n + m) * bytes ≤ 140737488355328) (hbase : base ≤ w.heap.size)
    (h : ∀ v' w', w'.ownsRow base e size v' (n + m) (xs ++ ys) → w.grownBy w' v.ownBlock → wpList P ops Q rest (a.put o.dst v') w') : wpList P ops Q (o :: rest) a w := by
  cases ad with
  | none =>
    obtain rfl := hnone rfl
    obtain rfl : ys = [] := List.length_eq_zero_iff.1 (by rw [hlen, Nat.zero_mul])
    have hrun := run_append_noth (P := P) (w := w) base t o.type e i size c ht hi v n xs hown
    refine wpList_plain hgd fun K hK => ?_
    unfold Oper.wp
    simp [execOp, ho, resolve, invoke, builtin, hs, hx, hrun, Result.andThen]
    exact hK _ _ (h v w (by rw [Nat.add_zero, List.append_nil]; exact hown) ⟨rfl, rfl, rfl, Nat.le_refl _, fun _ _ _ => rfl⟩)
  | some a0 =>
    refine wpList_append_own _ hgd s x t ho base e i z size bytes ht hi hz hsize hby hzs hsz v n xs hs hown a0 m c ys hx hlen (hsrc a0 rfl) h1 h63 hbytes hbase ?_
    intro v' w' h2 h3 _
    exact h v' w' h2 h3

theorem revive_calm {d : D.DS} (h1 : d.dead = false) (h2 : d.left = 0) : d.revive = d := by
  obtain ⟨S, R, de, le, by'⟩ := d
  simp only at h1 h2
  subst h1; subst h2
  rfl
theorem OPost.rev {w w' : World} {b : Nat} {d : D.DS} {e : Ending} (h : OPost w b d e w') (hd : d.dead = false) : OPost w b d.revive e w' := by
  unfold OPost at h ⊢
  rw [hd] at h
  exact h
/-- one of both calls -/
def cl (sb : Bool) (d : D.DS) (ws : WS) (r : ByteArray) : Int × D.DS × WS := if sb then Wl.snapshot d ws r else Wl.append d ws r
def sB (sb : Bool) (s r : ByteArray) : ByteArray := if sb then r else s
def lB (sb : Bool) (l : List ByteArray) (r : ByteArray) : List ByteArray := if sb then [] else l ++ [r]
def wB (sb : Bool) (ws : WS) (r : ByteArray) : WS := if sb then wsS ws r else wsA ws r
def kB (sb : Bool) (d : D.DS) (ws : WS) (r : ByteArray) : Nat := if sb then kS r else kA d ws r
/-- whatever the log's number -/
theorem ConX.calls {d : D.DS} {ws : WS} {s : ByteArray} {l : List ByteArray} (h : ConX d ws s l) (sb : Bool) (r : ByteArray) {n : Nat} (hnn : n ≤ 9223372036854775807) {B : Int} (hB0 : 0 ≤ B) (hB1 : B ≤ 128) :
    Ends d ws (wB sb ws r) s (sB sb s r) l (lB sb l r) (kB sb d ws r) n B (cl sb (armed d n B) ws r) ∧ (cl sb (armed d n B) ws r).2.1.R.length ≤ d.R.length + 600 := by
  have hC := h.con
  have hg : ¬ (ws.gone = true ∨ (armed d n B).dead = true) := by simp [hC.gone]; exact hC.live
  by_cases hn : ws.h.num < 1099511627776
  · cases sb
    · exact h.appends hn r hnn hB0 hB1
    · exact h.snaps hn r hnn hB0 hB1
  · cases sb
    · have e : ∃ c, (c = 92 ∨ c = 93 ∨ c = 94) ∧ Wl.append (armed d n B) ws r = (c, armed d n B, ws) := by
        unfold Wl.append Wl.powered
        rw [if_neg hg]
        by_cases h1 : r.size < 1 ∨ 2048 < r.size
        · exact ⟨92, .inl rfl, by rw [if_pos h1]⟩
        · by_cases h2 : Wl.room (armed d n B).S.length ws.h < r.size
          · exact ⟨93, .inr (.inl rfl), by rw [if_neg h1, if_pos h2]⟩
          · exact ⟨94, .inr (.inr rfl), by rw [if_neg h1, if_neg h2, if_pos (by omega)]⟩
      obtain ⟨c, hc, e⟩ := e
      show Ends d ws _ s _ l _ _ n B (Wl.append (armed d n B) ws r) ∧ (Wl.append (armed d n B) ws r).2.1.R.length ≤ d.R.length + 600
      rw [e]
      exact ⟨.no (by show c ≠ 0; omega) (by show c ≠ 2; omega) rfl rfl, by show d.R.length ≤ _; omega⟩
    · have e : ∃ c, (c = 92 ∨ c = 94) ∧ Wl.snapshot (armed d n B) ws r = (c, armed d n B, ws) := by
        unfold Wl.snapshot Wl.powered
        rw [if_neg hg]
        by_cases h1 : min 17000 (Wl.hb (armed d n B).S.length) < r.size
        · exact ⟨92, .inl rfl, by rw [if_pos h1]⟩
        · exact ⟨94, .inr rfl, by rw [if_neg h1, if_pos (by omega)]⟩
      obtain ⟨c, hc, e⟩ := e
      show Ends d ws _ s _ l _ _ n B (Wl.snapshot (armed d n B) ws r) ∧ (Wl.snapshot (armed d n B) ws r).2.1.R.length ≤ d.R.length + 600
      rw [e]
      exact ⟨.no (by show c ≠ 0; omega) (by show c ≠ 2; omega) rfl rfl, by show d.R.length ≤ _; omega⟩
/-- what a cut ends goes through on the whole disk -/
theorem ConX.wholes {d : D.DS} {ws : WS} {s : ByteArray} {l : List ByteArray} (h : ConX d ws s l) (sb : Bool) (r : ByteArray) {n : Nat} {B : Int} (h2 : (cl sb (armed d n B) ws r).1 = 2) :
    (cl sb d ws r).1 = 0 ∧ (cl sb d ws r).2.1.R.length = d.R.length + (kB sb d ws r + 1) ∧ (cl sb d ws r).2.1.R.length ≤ d.R.length + 600 := by
  have hC := h.con
  have hg : ¬ (ws.gone = true ∨ (armed d n B).dead = true) := by simp [hC.gone]; exact hC.live
  obtain ⟨E, hR⟩ := h.calls sb r (n := 0) (by decide) h.con.ok.b0 h.con.ok.b1
  rw [armed_self h.con.calm] at E hR
  have h0 : (cl sb d ws r).1 = 0 := by
    cases sb
    · have h2 : (Wl.append (armed d n B) ws r).1 = 2 := h2
      unfold Wl.append Wl.powered at h2
      rw [if_neg hg] at h2
      by_cases h1 : r.size < 1 ∨ 2048 < r.size
      · rw [if_pos h1] at h2; cases h2
      · rw [if_neg h1] at h2
        by_cases h3 : Wl.room (armed d n B).S.length ws.h < r.size
        · rw [if_pos h3] at h2; cases h2
        · rw [if_neg h3] at h2
          by_cases h4 : 1099511627776 ≤ ws.h.num
          · rw [if_pos h4] at h2; cases h2
          · have h3 : ¬ Wl.room d.S.length ws.h < r.size := h3
            exact (h.append_calm (by omega) (by omega) (by omega) (by omega)).1
    · have h2 : (Wl.snapshot (armed d n B) ws r).1 = 2 := h2
      unfold Wl.snapshot Wl.powered at h2
      rw [if_neg hg] at h2
      by_cases h1 : min 17000 (Wl.hb (armed d n B).S.length) < r.size
      · rw [if_pos h1] at h2; cases h2
      · rw [if_neg h1] at h2
        by_cases h4 : 1099511627776 ≤ ws.h.num
        · rw [if_pos h4] at h2; cases h2
        · have h1 : ¬ min 17000 (Wl.hb d.S.length) < r.size := h1
          exact (h.snapshot_calm (by omega) (by omega)).1
  refine ⟨h0, ?_, hR⟩
  cases E with
  | no k => exact absurd h0 k
  | yes _ _ _ _ hR => exact hR
  | last k => rw [h0] at k; cases k
  | cut k => rw [h0] at k; cases k
set_option maxHeartbeats 1000000 in
theorem told_any {base : Nat} {w : World} {b : Nat} {F : Nat → Prop} {d : D.DS} (h : D.Dk base w b F d) {ws : WS} {s : ByteArray} {l : List ByteArray} (hC : ConX d.revive ws s l) (hd : d.dead = false) :
    Calls Try.prog 32 #[.pointer (some ⟨b, 0, none⟩)] w fun e w' => ∃ ad cp, e = .returned (.tuple #[.string s, .slice ad l.length cp, .bool true]) ∧ w'.ownsRow w.heap.size 9 1 (.slice ad l.length cp) l.length (l.map .string) ∧ Below w.heap.size w w' := by
  have HO := hide (open_any h)
  have HC := hide hC
  have HD := hide hd
  clear h hC hd
  go_enter Try.func32, Try.ntmps32
  go_wp2_with fail
  refine HO.out.mono ?_
  intro e w1 hP
  obtain ⟨hB, W, ad, cp, rfl, -, -, ho, -⟩ := HC.out.con.opens (hP.rev HD.out)
  have HO1 := hide ho
  have HB := hide hB
  clear ho hB hP
  go_wp2_with fail
  go_ret3
  exact ⟨ad, cp, rfl, HO1.out, HB.out⟩
end Go.Proofs.Ytojghjgbnnkldaa
end

section
namespace Go.Proofs.Ytojghjgbnnkldaa
open Go.RowKit Go.Shelf
open Wl (Hd WS Log)

theorem Try.infoStr : (Try.prog.info? 9).map (fun i => (i.zero, i.size, i.bytes)) = some (some (.string ByteArray.empty), 1, 16) := by kernel_rfl
theorem info_prt {t : TypeId} {z : Option Value} {s b : Nat} (h : (Try.prog.info? t).map (fun i => (i.zero, i.size, i.bytes)) = some (z, s, b)) : ∃ i, Try.prog.info? t = some i ∧ i.zero = z ∧ i.size = s ∧ i.bytes = b := by
  cases hi : Try.prog.info? t with
  | none => rw [hi] at h; cases h
  | some i => rw [hi] at h; simp at h; exact ⟨i, rfl, h.1, h.2.1, h.2.2⟩
theorem one_nw (w : World) (u : Value) (t : TypeId) : ∀ j x, [u][j]? = some x → (w.alloc (.cells #[u] t)).cell? ((⟨w.heap.size, 0, none⟩ : Addr).add j) = some x := by
  intro j x hj
  match j, hj with
  | 0, hj => simp at hj; subst hj; simp [Addr.add]
theorem own_kp {w w' : World} {B : Nat} {e : TypeId} {size n : Nat} {v : Value} {xs : List Value} (h : w.ownsRow B e size v n xs) (hk : ∀ k, v.ownBlock = some k → w'.heap[k]? = w.heap[k]?) : w'.ownsRow B e size v n xs := by
  refine ⟨h.1, ?_⟩
  rcases h.2 with h1 | ⟨g, cap, cur, rfl, hg, hb, h2⟩
  · exact .inl h1
  · exact .inr ⟨g, cap, cur, rfl, hg, (hk g rfl).trans hb, h2⟩
theorem own_bl {w w' : World} {B : Nat} {e : TypeId} {size n : Nat} {v : Value} {xs : List Value} (h : w.ownsRow B e size v n xs) (hb : Below w.heap.size w w') : w'.ownsRow B e size v n xs := own_kp h fun k hk => hb.block k (h.lt k hk).2
theorem own_sl {w : World} {B : Nat} {e : TypeId} {size n : Nat} {v : Value} {xs : List Value} (h : w.ownsRow B e size v n xs) : ∃ ad cap, v = .slice ad n cap := by
  rcases h.2 with ⟨h1, h2⟩ | ⟨g, cap, cur, h1, _⟩
  · exact ⟨none, 0, by rw [h1, h2]⟩
  · exact ⟨_, _, h1⟩
theorem rs_olds {w : World} {ad : Option Addr} {ab ao : Nat} {l : List ByteArray} (h : D.Rs w ad ab ao l) : ∀ a0, ad = some a0 → ∀ j u, (l.map Value.string)[j]? = some u → w.cell? (a0.add j) = some u := by
  intro a0 ha j u hu
  have hlt : j < l.length := by have := (List.getElem?_eq_some_iff.mp hu).1; simpa using this
  have h1 := h.at_ (by omega)
  rw [ha] at h1
  injection h1 with h1
  subst h1
  rw [Addr.add_lit, h.cell j hlt]
  rw [List.getElem?_map, List.getElem?_eq_getElem hlt] at hu
  exact hu
theorem own0 {w : World} {base g : Nat} (h : w.heap[g]? = some (.cells #[] 9 (0, 0))) (hb : base ≤ g) : w.ownsRow base 9 1 (.slice (some ⟨g, 0, none⟩) 0 0) 0 [] :=
  ⟨rfl, .inr ⟨g, 0, #[], rfl, hb, h, Nat.le_refl _, Nat.zero_le _, rfl, rfl⟩⟩
set_option maxHeartbeats 2000000 in
set_option maxRecDepth 8000 in
theorem behind_any {w : World} {ad : Option Addr} {ab ao cap : Nat} {l : List ByteArray} (h : D.Rs w ad ab ao l) (hl : l.length ≤ 65536) (s t : ByteArray) (sb : Bool) :
    Calls Try.prog 29 #[.string s, .slice ad l.length cap, .string t, .bool sb] w fun e w' => ∃ ad' cap', e = .returned (.tuple #[.string (sB sb s t), .slice ad' (lB sb l t).length cap']) ∧ w'.ownsRow w.heap.size 9 1 (.slice ad' (lB sb l t).length cap') (lB sb l t).length ((lB sb l t).map .string) ∧ Below w.heap.size w w' := by
  cases sb
  · have HH := hide h
    clear h
    obtain ⟨iS, hiS, zS0, zS1, zS2⟩ := info_prt Try.infoStr
    have HB1 : Hid (Below w.heap.size w (w.alloc (.cells #[] 9))) := hide ((Below.refl _ w).alloc (Nat.le_refl _) _)
    have HO1 : Hid ((w.alloc (.cells #[] 9)).ownsRow w.heap.size 9 1 (.slice (some ⟨w.heap.size, 0, none⟩) 0 0) 0 []) := hide (own0 (heap_alloc_new w _) (Nat.le_refl _))
    have HR1 := hide (HH.out.keep (w' := w.alloc (.cells #[] 9)) fun h0 => HB1.out.block _ (HH.out.lt h0))
    go_enter Try.func29, Try.ntmps29
    go_wp2_with (first
      | (at_builtin; refine wpList_append_rd rfl (.tmp 13) (.tmp 14) 30 rfl w.heap.size 9 iS (.string ByteArray.empty) 1 16 Try.underlying30 hiS zS0 zS1 zS2 rfl (by decide) (.slice (some ⟨w.heap.size, 0, none⟩) 0 0) 0 [] rfl HO1.out ad l.length cap (l.map Value.string) rfl (by simp) (fun hn => by rcases Nat.eq_zero_or_pos l.length with h0 | h0; exact h0; have h3 := HH.out.at_ h0; rw [hn] at h3; cases h3) (rs_olds HR1.out) (by intro u hu; simp at hu; obtain ⟨_, _, rfl⟩ := hu; rfl) (by unfold maxLen; omega) (by omega) (by rw [World.size_alloc]; omega) ?_; intro v2 w2 hown2 hgr2; have HO2 : Hid (w2.ownsRow w.heap.size 9 1 v2 l.length (l.map Value.string)) := hide (by have := hown2; rw [Nat.zero_add, List.nil_append] at this; exact this); have HB2 := hide (HB1.out.grown hgr2 (by rw [World.size_alloc]; omega) (fun k hk => by simp [Value.ownBlock] at hk; omega)); obtain ⟨ad2, cap2, rfl⟩ := own_sl HO2.out; have HO3 : Hid ((w2.alloc (.cells #[.string t] 9)).ownsRow w.heap.size 9 1 (.slice ad2 l.length cap2) l.length (l.map Value.string)) := hide (own_bl HO2.out ((Below.refl _ w2).alloc (Nat.le_refl _) _)); have hsz2 := HB2.out.size; clear hown2 hgr2)
      | (at_builtin; refine wpList_append_lies _ rfl (.tmp 15) (.tmp 17) 30 rfl w.heap.size 9 iS (.string ByteArray.empty) 1 16 Try.underlying30 hiS zS0 zS1 zS2 rfl (by decide) (.slice ad2 l.length cap2) l.length (l.map Value.string) rfl HO3.out ⟨w2.heap.size, 0, none⟩ 1 1 [.string t] rfl rfl (one_nw _ _ _) (by intro u hu; simp at hu; subst hu; rfl) (by decide) (by unfold maxLen; omega) (by omega) (by rw [World.size_alloc]; omega) _ rfl ?_; intro g4 cap4 w4 hown4 hgr4 hat4 hlt4; have HO4 := hide hown4; have HB4 := hide ((HB2.out.alloc hsz2 _).grown hgr4 (by rw [World.size_alloc]; omega) (fun k hk => (HO2.out.lt k hk).1)); clear hown4 hgr4 hat4 hlt4))
    go_ret2
    have e1 : (lB false l t).length = l.length + 1 := by simp [lB]
    have e2 : (lB false l t).map Value.string = l.map Value.string ++ [.string t] := by simp [lB]
    rw [e1, e2]
    exact ⟨some ⟨g4, 0, none⟩, cap4, rfl, HO4.out, HB4.out⟩
  · clear h
    go_enter Try.func29, Try.ntmps29
    go_wp2
    go_ret2
    exact ⟨none, 0, rfl, World.ownsRow_nil _ _ _ _, Below.refl _ _⟩
/-- a dead disk with its log, and another disk beside -/
structure Cu (base : Nat) (w : World) (b bw W : Nat) (F G : Nat → Prop) (d1 d0 : D.DS) (ws : WS) (vl vm : Value) (l m : List ByteArray) : Prop where
  dk : D.Dk base w b F d1
  wm : Wm w W b ws
  nf : ¬ F W
  hW : base ≤ W
  ck : D.Dk base w bw G d0
  fg : ∀ k, F k → ¬ G k
  gw : ¬ G W
  ol : w.ownsRow base 9 1 vl l.length (l.map .string)
  om : w.ownsRow base 9 1 vm m.length (m.map .string)
section
variable {base : Nat} {w w' : World} {b bw W : Nat} {F G : Nat → Prop} {d1 d0 : D.DS} {ws : WS} {vl vm : Value} {l m : List ByteArray}
theorem Cu.below (h : Cu base w b bw W F G d1 d0 ws vl vm l m) (hb : Below w.heap.size w w') : Cu base w' b bw W F G d1 d0 ws vl vm l m :=
  ⟨h.dk.below hb, (hb.block _ (lt_of_block h.wm)).trans h.wm, h.nf, h.hW, h.ck.below hb, h.fg, h.gw, own_bl h.ol hb, own_bl h.om hb⟩
theorem Cu.row (h : Cu base w b bw W F G d1 d0 ws vl vm l m) {F' : Nat → Prop} (hm : D.Mv (FW F W) (FW F' W) w w') {v : Value} {n : Nat} {xs : List Value} (ho : w.ownsRow base 9 1 v n xs) : w'.ownsRow base 9 1 v n xs :=
  own_kp ho fun k hk => by
    obtain ⟨cs, hc⟩ := own_blk ho hk
    exact hm.block k (ho.lt k hk).2 (fun hf => hf.elim (dk_str h.dk hc) (wm_str h.wm hc))
theorem Cu.mv (h : Cu base w b bw W F G d1 d0 ws vl vm l m) {F' : Nat → Prop} {d1' : D.DS} {ws' : WS} (hd : D.Dk base w' b F' d1') (hw : Wm w' W b ws') (nf : ¬ F' W) (hm : D.Mv (FW F W) (FW F' W) w w') : Cu base w' b bw W F' G d1' d0 ws' vl vm l m :=
  ⟨hd, hw, nf, h.hW, h.ck.mv hm (fun k hk hf => hf.elim (fun hf => h.fg k hf hk) (fun e => h.gw (by rw [← e]; exact hk))), fun k hk hg => by
    rcases hm.foot k (.inl hk) with (e | e) | e
    · exact h.fg k e hg
    · exact h.gw (by rw [← e]; exact hg)
    · have := (h.ck.ftlt k hg).2; omega, h.gw, h.row hm h.ol, h.row hm h.om⟩
theorem Cu.low (h : Cu base w b bw W F G d1 d0 ws vl vm l m) : ∀ k, FW F W k → base ≤ k := fun k hk => hk.elim (fun hk => h.dk.ftlow k hk) (fun e => by rw [e]; exact h.hW)
theorem Cu.rsl (h : Cu base w b bw W F G d1 d0 ws vl vm l m) {ad : Option Addr} {c : Nat} (e : vl = .slice ad l.length c) : ∃ ab, D.Rs w ad ab 0 l := by
  have := h.ol
  rw [e] at this
  exact (D.Rs.own this).2
theorem Cu.rsm (h : Cu base w b bw W F G d1 d0 ws vl vm l m) {ad : Option Addr} {c : Nat} (e : vm = .slice ad m.length c) : ∃ ab, D.Rs w ad ab 0 m := by
  have := h.om
  rw [e] at this
  exact (D.Rs.own this).2
end
end Go.Proofs.Ytojghjgbnnkldaa
end
