import Derived.Test.YtojghjgbnnkldaaMgAS

section
namespace Go.Proofs.Ytojghjgbnnkldaa
open Go.RowKit Go.Shelf
open Wl (Hd WS Log)

/-- a snapshot is taken, or nothing is turned -/
theorem Con.snapshot_or {d : D.DS} {ws : WS} {s : ByteArray} {l : List ByteArray} (h : Con d ws s l) (hn : ws.h.num < 1099511627776) (t : ByteArray) :
    ((Wl.snapshot d ws t).1 = 0 ∧ Con (Wl.snapshot d ws t).2.1 (Wl.snapshot d ws t).2.2 t [] ∧ (Wl.snapshot d ws t).2.2.h = Wl.hdS ws.h t ∧ (Wl.snapshot d ws t).2.1.R.length ≤ d.R.length + 600 ∧ (Wl.snapshot d ws t).2.1.S.length = d.S.length) ∨ ((Wl.snapshot d ws t).1 ≠ 0 ∧ (Wl.snapshot d ws t).2.1 = d ∧ (Wl.snapshot d ws t).2.2 = ws) := by
  by_cases h1 : min 17000 (Wl.hb d.S.length) < t.size
  · rw [snap_long h h1]; exact .inr ⟨by show (92 : Int) ≠ 0; decide, rfl, rfl⟩
  · exact .inl (h.snapshot (by omega) hn)
/-- a log in memory, its disk, what it tells, and a row of texts -/
structure TlI (w0 : World) (b W : Nat) (v : Value) (s : ByteArray) (l lr : List ByteArray) (d : D.DS) (ws : WS) (F : Nat → Prop) (N : Nat) (w : World) : Prop where
  con : Con d ws s l
  nm : ws.h.num ≤ 1 + N
  rl : d.R.length ≤ 1 + 600 * N
  dk : D.Dk w0.heap.size w b F d
  wm : Wm w W b ws
  nf : ¬ F W
  hW : w0.heap.size ≤ W
  own : w.ownsRow w0.heap.size 9 1 v lr.length (lr.map .string)
  bel : Below w0.heap.size w0 w
section
variable {w0 : World} {b W : Nat} {v : Value} {s : ByteArray} {l lr : List ByteArray} {d : D.DS} {ws : WS} {F : Nat → Prop} {N : Nat} {w w' : World}
theorem TlI.small (h : TlI w0 b W v s l lr d ws F N w) : l.length ≤ 65536 := by
  have := h.con.wok.rc; rw [h.con.rc] at this; exact this
theorem TlI.R (h : TlI w0 b W v s l lr d ws F N w) (hN : N ≤ 1048576) : (d.R.length + 600) * 24 ≤ 140737488355328 := by
  have h2 := h.rl
  exact Nat.le_trans (Nat.mul_le_mul_right 24 (show d.R.length + 600 ≤ 1000000000 by omega)) (by decide)
theorem TlI.below (h : TlI w0 b W v s l lr d ws F N w) (hb : Below w.heap.size w w') : TlI w0 b W v s l lr d ws F N w' :=
  ⟨h.con, h.nm, h.rl, h.dk.below hb, h.wm.below hb, h.nf, h.hW, D.own_keep h.own fun k hk => hb.block k (own_lo h.own hk).2, h.bel.trans (hb.mono h.bel.size)⟩
/-- a call -/
theorem TlI.called (h : TlI w0 b W v s l lr d ws F N w) {s' : ByteArray} {l' : List ByteArray} {d' : D.DS} {ws' : WS} {F' : Nat → Prop} (hC : Con d' ws' s' l') (hn : ws'.h.num ≤ 1 + (N + 1)) (hr : d'.R.length ≤ 1 + 600 * (N + 1))
    (hD : D.Dk w0.heap.size w' b F' d') (hW : Wm w' W b ws') (hM : D.Mv (FW F W) (FW F' W) w w') (hf : ¬ F' W) : TlI w0 b W v s' l' lr d' ws' F' (N + 1) w' := by
  refine ⟨hC, hn, hr, hD, hW, hf, h.hW, D.own_keep h.own fun k hk => ?_, h.bel.trans (hM.below h.bel.size fun k hk => ?_)⟩
  · obtain ⟨cs, hcs⟩ := own_blk h.own hk
    exact hM.block k (lt_of_block hcs) (fun e => by rcases e with e | e; exact dk_str h.dk hcs e; exact wm_str h.wm hcs e)
  · rcases hk with hk | hk
    · exact h.dk.ftlow k hk
    · rw [hk]; exact h.hW
/-- the row grows -/
theorem TlI.grown (h : TlI w0 b W v s l lr d ws F N w) {w1 : World} {v' : Value} {lr' : List ByteArray} (h1 : Below w.heap.size w w1) (hg : w1.grownBy w' v.ownBlock) (ho' : w'.ownsRow w0.heap.size 9 1 v' lr'.length (lr'.map .string)) : TlI w0 b W v' s l lr' d ws F N w' := by
  have hk : ∀ k, k < w.heap.size → v.ownBlock ≠ some k → w'.heap[k]? = w.heap[k]? := fun k hk hn => (hg.block k (Nat.lt_of_lt_of_le hk h1.size) (Ne.symm hn)).trans (h1.block k hk)
  refine ⟨h.con, h.nm, h.rl, h.dk.keep fun k hk' => hk k (h.dk.ftlt k hk').2 (fun e => ?_), (hk W (lt_of_block h.wm) (fun e => ?_)).trans h.wm, h.nf, h.hW, ho', (h.bel.trans (h1.mono h.bel.size)).grown hg (Nat.le_trans h.bel.size h1.size) (fun k hk' => (own_lo h.own hk').1)⟩
  · obtain ⟨cs, hcs⟩ := own_blk h.own e; exact dk_str h.dk hcs hk'
  · obtain ⟨cs, hcs⟩ := own_blk h.own e; exact wm_str h.wm hcs rfl
/-- a new row -/
theorem TlI.fresh (h : TlI w0 b W v s l lr d ws F N w) : TlI w0 b W (.slice (some ⟨w.heap.size, 0, none⟩) 0 0) s l [] d ws F N (w.alloc (.cells #[] 9)) :=
  ⟨h.con, h.nm, h.rl, h.dk.alloc _, h.wm.below (below_alloc _ _), h.nf, h.hW, World.ownsRow_made w #[] 0 h.bel.size (by decide) rfl, h.bel.alloc h.bel.size _⟩
theorem TlI.okv (h : TlI w0 b W v s l lr d ws F N w) : Wl.Ok d ⟨ws.h, l.length, false⟩ := ⟨h.con.wok.fits, h.con.wok.num, h.con.wok.half, h.con.wok.sn, h.con.wok.used, h.small⟩
end
theorem TlI.of {w0 : World} {b W : Nat} {d : D.DS} {F : Nat → Prop} {w : World} (h : TwI w0 b W [] d ⟨Wl.h1, 0, false⟩ F w) : TlI w0 b W (.slice (some ⟨w.heap.size, 0, none⟩) 0 0) ⟨#[]⟩ [] [] d ⟨Wl.h1, 0, false⟩ F 0 (w.alloc (.cells #[] 9)) :=
  ⟨h.con, by rw [h.nm]; decide, by have := h.rl; exact this, h.dk.alloc _, h.wm.below (below_alloc _ _), h.nf, h.hW, World.ownsRow_made w #[] 0 h.bel.size (by decide) rfl, h.bel.alloc h.bel.size _⟩
end Go.Proofs.Ytojghjgbnnkldaa
end

section
namespace Go.Proofs.Ytojghjgbnnkldaa
open Go.RowKit Go.Shelf
open Wl (Hd WS Log)

/-- the other head: no number that could be the next one's, whatever is torn -/
structure Oth (O : ByteArray) (n : Nat) : Prop where
  sz : O.size = 128
  last : O.data.toList.getD 127 0 ≠ UInt8.ofNat ((n + 1) % 256)
  ends : O.data.toList.take 8 = Pk.big8 (n + 1) ∨ Pk.fold8 (O.data.toList.drop 120) < n
theorem headL_last (h : Hd) : (Wl.headL h).getD 127 0 = UInt8.ofNat (h.num % 256) := rfl
theorem headL_ends (h : Hd) : (Wl.headL h).drop 120 = Pk.big8 h.num := rfl
theorem headL_first (h : Hd) : (Wl.headL h).take 8 = Pk.big8 h.num := rfl
theorem ofNat_mod (a : Nat) : (UInt8.ofNat (a % 256)).toNat = a % 256 := by simp
/-- an elder head is such a one -/
theorem oth_head {h : Hd} {n : Nat} (hn : h.num < n) (h6 : h.num < 18446744073709551616) (hm : h.num % 256 ≠ (n + 1) % 256) : Oth (Wl.headB h) n := by
  refine ⟨Wl.headB_size h, ?_, .inr ?_⟩
  · rw [headB_list, headL_last]
    intro e
    have := congrArg UInt8.toNat e
    rw [ofNat_mod, ofNat_mod] at this
    exact hm this
  · rw [headB_list, headL_ends, fold8_b8 _ h6]; exact hn
theorem oth_zero : Oth D.zsec 1 := ⟨rfl, by decide, .inr (by decide)⟩
/-- what is told by it is elder -/
theorem Oth.other {S : List ByteArray} {k n : Nat} (h : Oth (S.getD k ByteArray.empty) n) {L : Log} (hL : Wl.logOf S k = some L) : L.h.num < n := by
  have hp := logOf_parse hL
  unfold Wl.logOf at hL
  split at hL
  case isFalse => cases hL
  case isTrue hf =>
    rw [← hp] at hf
    obtain ⟨hm, _, he⟩ := hf
    have h6 : L.h.num < 18446744073709551616 := by have := hm.2.1; omega
    rcases h.ends with h1 | h1
    · refine absurd ?_ h.last
      rw [← he, headB_list, headL_last]
      rw [← he, headB_list, headL_first] at h1
      have := congrArg Pk.fold8 h1
      rw [fold8_b8 _ h6] at this
      by_cases h7 : n + 1 < 18446744073709551616
      · rw [fold8_b8 _ h7] at this; rw [this]
      · have e2 : Pk.fold8 (Pk.big8 (n + 1)) = (n + 1) % 18446744073709551616 := by
          have e : ∀ x : Nat, (UInt8.ofNat (x % 256)).toNat = x % 256 := fun x => by simp
          simp only [Pk.fold8, Pk.big8, List.foldl_cons, List.foldl_nil, e]
          omega
        rw [e2] at this
        have : L.h.num % 256 = (n + 1) % 256 := by omega
        rw [this]
    · rw [← he, headB_list, headL_ends, fold8_b8 _ h6] at h1
      exact h1
/-- a torn head keeps it so -/
theorem Oth.torn {O : ByteArray} {n : Nat} (h : Oth O n) {hd : Hd} (hn : hd.num = n + 1) {B : Nat} (hB : B < 128) : Oth (D.laid ((Wl.headB hd).extract 0 B) O) n := by
  have hl : O.data.toList.length = 128 := by rw [← D.size_list]; exact h.sz
  have hhl : ((Wl.headB hd).extract 0 B).size = B := by rw [D.ext_size, Wl.headB_size]; omega
  have e : (D.laid ((Wl.headB hd).extract 0 B) O).data.toList = (Wl.headL hd).take B ++ O.data.toList.drop B := by
    rw [D.laid_list, hhl]
    congr 1
    simp [Wl.headB]
  have htl : ((Wl.headL hd).take B).length = B := by rw [List.length_take, Wl.headL_len]; omega
  refine ⟨?_, ?_, ?_⟩
  · rw [D.size_list, e, List.length_append, htl, List.length_drop, hl]; omega
  · rw [e, List.getD_eq_getElem?_getD, List.getElem?_append_right (by rw [htl]; omega), htl, List.getElem?_drop, show B + (127 - B) = 127 by omega, ← List.getD_eq_getElem?_getD]
    exact h.last
  · rw [e]
    by_cases h8 : 8 ≤ B
    · refine .inl ?_
      rw [List.take_append_of_le_length (by rw [htl]; exact h8), List.take_take, show min 8 B = 8 by omega, headL_first, hn]
    · rcases h.ends with h1 | h1
      · refine .inl ?_
        have e1 : (Wl.headL hd).take B = (Pk.big8 (n + 1)).take B := by rw [← hn, ← headL_first, List.take_take, show min B 8 = B by omega]
        rw [List.take_append, htl, List.take_take, show min 8 B = B by omega, ← List.drop_take, h1, e1, List.take_append_drop]
      · refine .inr ?_
        rw [List.drop_append, htl, List.drop_of_length_le (by rw [htl]; omega), List.nil_append, List.drop_drop, show B + (120 - B) = 120 by omega]
        exact h1
/-- a log that stands, with what a cut may leave -/
structure ConX (d : D.DS) (ws : WS) (s : ByteArray) (l : List ByteArray) : Prop where
  con : Con d ws s l
  oth : Oth (d.S.getD (1 - ws.h.num % 2) ByteArray.empty) ws.h.num
/-- what counts of a disk are its sectors -/
theorem Con.same {d d' : D.DS} {ws : WS} {s : ByteArray} {l : List ByteArray} (h : Con d ws s l) (hS : d'.S = d.S) (hok : d'.ok) (hd : d'.dead = false) (hl : d'.left = 0) : Con d' ws s l := by
  obtain ⟨S, R, de, le, by'⟩ := d
  obtain ⟨S', R', de', le', by2⟩ := d'
  simp only at hS hd hl
  subst hS
  obtain ⟨a1, a2, a3, a4, a5, a6, a7, a8, a9, a10, a11, a12⟩ := h
  exact ⟨hok, ⟨a2.fits, a2.num, a2.half, a2.sn, a2.used, a2.rc⟩, hd, hl, a5, a6, a7, a8, a9, a10, a11, a12⟩
theorem ConX.same {d d' : D.DS} {ws : WS} {s : ByteArray} {l : List ByteArray} (h : ConX d ws s l) (hS : d'.S = d.S) (hok : d'.ok) (hd : d'.dead = false) (hl : d'.left = 0) : ConX d' ws s l := ⟨h.con.same hS hok hd hl, by rw [hS]; exact h.oth⟩
/-- other sectors, the same heads and the same bytes: the log stands -/
theorem ConX.keeps {d d' : D.DS} {ws : WS} {s : ByteArray} {l : List ByteArray} (h : ConX d ws s l) (hlen : d'.S.length = d.S.length) (hhead : d'.S.getD (ws.h.num % 2) ByteArray.empty = d.S.getD (ws.h.num % 2) ByteArray.empty) (hoth : Oth (d'.S.getD (1 - ws.h.num % 2) ByteArray.empty) ws.h.num)
    (hst : Wl.stands d'.S ws.h = Wl.stands d.S ws.h) (hok : d'.ok) (hd : d'.dead = false) (hl : d'.left = 0) : ConX d' ws s l :=
  ⟨⟨hok, ⟨by rw [hlen]; exact h.con.wok.fits, h.con.wok.num, h.con.wok.half, h.con.wok.sn, by rw [hlen]; exact h.con.wok.used, h.con.wok.rc⟩, hd, hl, hhead.trans h.con.head, h.con.num1, fun L hL => hoth.other hL, hst.trans h.con.st, h.con.sn, h.con.recs, h.con.rc, h.con.gone⟩, hoth⟩

/-- writes of a disk that may be cut -/
def armed (d : D.DS) (n : Nat) (B : Int) : D.DS := { d with left := (n : Int), byt := B }
theorem write_cut9 {d : D.DS} (hd : d.dead = false) {n : Nat} (hn : n = 1) {B : Int} {k : Nat} (hk : k < d.S.length) {s : ByteArray} (hs : s.size = 128) : (armed d n B).write (k : Int) s = (2, { armed d n B with S := D.layS d.S k (s.extract 0 B.toNat), dead := true }) := by
  rw [D.DS.write_cut (show (armed d n B).dead = false from hd) (by show 0 ≤ (k : Int) ∧ (k : Int) < (d.S.length : Int); omega) hs (by show ((n : Nat) : Int) = 1; omega), Int.toNat_natCast]
  rfl
theorem write_go9 {d : D.DS} (h : d.ok) (hd : d.dead = false) {n : Nat} (hn : n ≠ 1) {B : Int} {k : Nat} (hk : k < d.S.length) {s : ByteArray} (hs : s.size = 128) : (armed d n B).write (k : Int) s = (0, armed { d with S := d.S.set k s, R := d.R ++ [⟨k, s⟩] } (n - 1) B) := by
  rw [D.DS.write_all (show (armed d n B).dead = false from hd) (by show 0 ≤ (k : Int) ∧ (k : Int) < (d.S.length : Int); omega) hs (by show ((n : Nat) : Int) ≠ 1; omega), Int.toNat_natCast]
  show (0, _) = (0, _)
  have e1 : D.layS (armed d n B).S k s = d.S.set k s := lay_all h.s128 hk hs
  have e2 : (if 0 < (armed d n B).left then (armed d n B).left - 1 else (armed d n B).left) = ((n - 1 : Nat) : Int) := by
    show (if (0 : Int) < (n : Int) then (n : Int) - 1 else (n : Int)) = _
    split <;> omega
  rw [e1, e2]
  rfl
theorem wsec_cut (l : List ByteArray) : ∀ (d : D.DS) (k n : Nat) (B : Int), d.ok → d.dead = false → k + l.length ≤ d.S.length → (∀ s ∈ l, s.size = 128) → 1 ≤ n → n ≤ l.length →
    (Wl.wsec (armed d n B) k l).1 = 2 ∧ (Wl.wsec (armed d n B) k l).2.dead = true ∧ (Wl.wsec (armed d n B) k l).2.byt = B ∧ (Wl.wsec (armed d n B) k l).2.S = D.layS (putS d.S k (l.take (n - 1))) (k + (n - 1)) ((l.getD (n - 1) ByteArray.empty).extract 0 B.toNat) ∧ (Wl.wsec (armed d n B) k l).2.R.length = d.R.length + (n - 1) := by
  induction l with
  | nil => intro d k n B _ _ _ _ h1 h2; simp at h2; omega
  | cons s l ih =>
    intro d k n B h hd hk h8 h1 h2
    have hk' := hk
    rw [List.length_cons] at hk' h2
    by_cases hn : n = 1
    · have e := write_cut9 (d := d) hd hn (B := B) (k := k) (by omega) (h8 s List.mem_cons_self)
      rw [wsec_cons, e, if_pos (by simp)]
      subst hn
      refine ⟨rfl, rfl, rfl, ?_, rfl⟩
      show D.layS d.S k _ = D.layS (putS d.S k []) k _
      rw [putS_nil]; rfl
    · have e := write_go9 h hd hn (B := B) (k := k) (by omega) (h8 s List.mem_cons_self)
      have hok : ({ d with S := d.S.set k s, R := d.R ++ [⟨k, s⟩] } : D.DS).ok := by
        refine ⟨?_, h.l0, h.l1, h.b0, h.b1, by show 0 < (d.S.set k s).length; rw [List.length_set]; exact h.s0, by show (d.S.set k s).length ≤ 1026; rw [List.length_set]; exact h.s1⟩
        intro x hx
        rcases List.mem_or_eq_of_mem_set hx with hx | hx
        · exact h.s128 x hx
        · rw [hx]; exact h8 s List.mem_cons_self
      rw [wsec_cons, e, if_neg (by simp)]
      obtain ⟨a1, a2, a3, a4, a5⟩ := ih { d with S := d.S.set k s, R := d.R ++ [⟨k, s⟩] } (k + 1) (n - 1) B hok hd (by show k + 1 + l.length ≤ (d.S.set k s).length; rw [List.length_set]; omega) (fun x hx => h8 x (List.mem_cons_of_mem _ hx)) (by omega) (by omega)
      refine ⟨a1, a2, a3, ?_, ?_⟩
      · rw [a4]
        obtain ⟨m, rfl⟩ : ∃ m, n = m + 2 := ⟨n - 2, by omega⟩
        show D.layS (putS (d.S.set k s) (k + 1) (l.take m)) (k + 1 + m) ((l.getD m ByteArray.empty).extract 0 B.toNat) = D.layS (putS d.S k ((s :: l).take (m + 1))) (k + (m + 1)) (((s :: l).getD (m + 1) ByteArray.empty).extract 0 B.toNat)
        rw [List.take_succ_cons, putS_cons (by rw [List.length_cons, List.length_take]; omega), show k + 1 + m = k + (m + 1) by omega]
        rfl
      · rw [a5]
        show (d.R ++ [_]).length + (n - 1 - 1) = _
        rw [List.length_append, List.length_singleton]; omega
theorem wsec_go (l : List ByteArray) : ∀ (d : D.DS) (k n : Nat) (B : Int), d.ok → d.dead = false → k + l.length ≤ d.S.length → (∀ s ∈ l, s.size = 128) → (n = 0 ∨ l.length < n) →
    ∃ d', (Wl.wsec (armed d n B) k l) = (0, armed d' (n - l.length) B) ∧ d'.ok ∧ d'.dead = false ∧ d'.S = putS d.S k l ∧ d'.R.length = d.R.length + l.length := by
  induction l with
  | nil => intro d k n B h hd _ _ _; exact ⟨d, rfl, h, hd, (putS_nil _ _).symm, rfl⟩
  | cons s l ih =>
    intro d k n B h hd hk h8 hn
    have hk' := hk
    rw [List.length_cons] at hk' hn
    have e := write_go9 h hd (show n ≠ 1 by omega) (B := B) (k := k) (by omega) (h8 s List.mem_cons_self)
    have hok : ({ d with S := d.S.set k s, R := d.R ++ [⟨k, s⟩] } : D.DS).ok := by
      refine ⟨?_, h.l0, h.l1, h.b0, h.b1, by show 0 < (d.S.set k s).length; rw [List.length_set]; exact h.s0, by show (d.S.set k s).length ≤ 1026; rw [List.length_set]; exact h.s1⟩
      intro x hx
      rcases List.mem_or_eq_of_mem_set hx with hx | hx
      · exact h.s128 x hx
      · rw [hx]; exact h8 s List.mem_cons_self
    rw [wsec_cons, e, if_neg (by simp)]
    obtain ⟨d', a1, a2, a3, a4, a5⟩ := ih { d with S := d.S.set k s, R := d.R ++ [⟨k, s⟩] } (k + 1) (n - 1) B hok hd (by show k + 1 + l.length ≤ (d.S.set k s).length; rw [List.length_set]; omega) (fun x hx => h8 x (List.mem_cons_of_mem _ hx)) (by omega)
    refine ⟨d', by rw [a1, List.length_cons, show n - 1 - l.length = n - (l.length + 1) by omega], a2, a3, ?_, ?_⟩
    · rw [a4]; exact putS_cons hk
    · rw [a5]; show (d.R ++ [_]).length + l.length = _; rw [List.length_append, List.length_singleton, List.length_cons]; omega
end Go.Proofs.Ytojghjgbnnkldaa
end

section
namespace Go.Proofs.Ytojghjgbnnkldaa
open Go.RowKit Go.Shelf
open Wl (Hd WS Log)

theorem wsec_ok (l : List ByteArray) : ∀ (d : D.DS) (k : Nat), d.ok → (Wl.wsec d k l).2.ok := by
  induction l with
  | nil => intro d k h; exact h
  | cons s l ih =>
    intro d k h
    rw [wsec_cons]
    split
    · exact D.DS.write_ok h _ _
    · exact ih _ _ (D.DS.write_ok h _ _)
theorem layW_ok {d : D.DS} (h : d.ok) (k : Nat) (l : List ByteArray) (hh : Hd) : (Wl.layW d k l hh).2.ok := by
  unfold Wl.layW
  split
  · exact wsec_ok l d k h
  · exact D.DS.write_ok (wsec_ok l d k h) _ _
theorem armed_ok {d : D.DS} (h : d.ok) {n : Nat} (hn : n ≤ 9223372036854775807) {B : Int} (h0 : 0 ≤ B) (h1 : B ≤ 128) : (armed d n B).ok := ⟨h.s128, by show (0 : Int) ≤ (n : Int); omega, by show (n : Int) ≤ 9223372036854775807; omega, h0, h1, h.s0, h.s1⟩
theorem revive_ok {d : D.DS} (h : d.ok) : d.revive.ok := ⟨h.s128, by show (0 : Int) ≤ 0; decide, by show (0 : Int) ≤ _; decide, h.b0, h.b1, h.s0, h.s1⟩
/-- a lay that is cut in a sector -/
theorem layW_cut {d : D.DS} (h : d.ok) (hd : d.dead = false) {k : Nat} {l : List ByteArray} (hk : k + l.length ≤ d.S.length) (h8 : ∀ s ∈ l, s.size = 128) (hh : Hd) {n : Nat} {B : Int} (h1 : 1 ≤ n) (h2 : n ≤ l.length) :
    (Wl.layW (armed d n B) k l hh).1 = 2 ∧ (Wl.layW (armed d n B) k l hh).2.dead = true ∧ (Wl.layW (armed d n B) k l hh).2.S = D.layS (putS d.S k (l.take (n - 1))) (k + (n - 1)) ((l.getD (n - 1) ByteArray.empty).extract 0 B.toNat) ∧ (Wl.layW (armed d n B) k l hh).2.R.length = d.R.length + (n - 1) := by
  obtain ⟨a1, a2, _, a4, a5⟩ := wsec_cut l d k n B h hd hk h8 h1 h2
  unfold Wl.layW
  rw [if_pos (by rw [a1]; decide)]
  exact ⟨a1, a2, a4, a5⟩
/-- .. in the head -/
theorem layW_head {d : D.DS} (h : d.ok) (hd : d.dead = false) {k : Nat} {l : List ByteArray} (hk : k + l.length ≤ d.S.length) (h8 : ∀ s ∈ l, s.size = 128) (h2 : 2 ≤ d.S.length) (hh : Hd) {n : Nat} {B : Int} (hn : n = l.length + 1) :
    (Wl.layW (armed d n B) k l hh).1 = 2 ∧ (Wl.layW (armed d n B) k l hh).2.dead = true ∧ (Wl.layW (armed d n B) k l hh).2.S = D.layS (putS d.S k l) (hh.num % 2) ((Wl.headB hh).extract 0 B.toNat) ∧ (Wl.layW (armed d n B) k l hh).2.R.length = d.R.length + (n - 1) := by
  obtain ⟨d', a1, a2, a3, a4, a5⟩ := wsec_go l d k n B h hd hk h8 (.inr (by omega))
  have hlt : hh.num % 2 < d'.S.length := by rw [a4, putS_len hk]; have := Nat.mod_lt hh.num (show 0 < 2 by decide); omega
  have e := write_cut9 a3 (n := n - l.length) (by omega) (B := B) hlt (Wl.headB_size hh)
  unfold Wl.layW
  rw [a1, if_neg (by simp)]
  show ((armed d' (n - l.length) B).write ((hh.num % 2 : Nat) : Int) (Wl.headB hh)).1 = 2 ∧ ((armed d' (n - l.length) B).write ((hh.num % 2 : Nat) : Int) (Wl.headB hh)).2.dead = true ∧ ((armed d' (n - l.length) B).write ((hh.num % 2 : Nat) : Int) (Wl.headB hh)).2.S = _ ∧ ((armed d' (n - l.length) B).write ((hh.num % 2 : Nat) : Int) (Wl.headB hh)).2.R.length = _
  rw [e]
  refine ⟨rfl, rfl, ?_, ?_⟩
  · show D.layS d'.S _ _ = _; rw [a4]
  · show d'.R.length = _; rw [a5]; omega
/-- .. not at all -/
theorem layW_go {d : D.DS} (h : d.ok) (hd : d.dead = false) {k : Nat} {l : List ByteArray} (hk : k + l.length ≤ d.S.length) (h8 : ∀ s ∈ l, s.size = 128) (h2 : 2 ≤ d.S.length) (hh : Hd) {n : Nat} {B : Int} (hn : n = 0 ∨ l.length + 1 < n) :
    ∃ d', Wl.layW (armed d n B) k l hh = (0, armed d' (n - (l.length + 1)) B) ∧ d'.dead = false ∧ d'.S = (putS d.S k l).set (hh.num % 2) (Wl.headB hh) ∧ d'.R.length = d.R.length + (l.length + 1) := by
  obtain ⟨d', a1, a2, a3, a4, a5⟩ := wsec_go l d k n B h hd hk h8 (by omega)
  have hlt : hh.num % 2 < d'.S.length := by rw [a4, putS_len hk]; have := Nat.mod_lt hh.num (show 0 < 2 by decide); omega
  have e := write_go9 a2 a3 (n := n - l.length) (by omega) (B := B) hlt (Wl.headB_size hh)
  refine ⟨{ d' with S := d'.S.set (hh.num % 2) (Wl.headB hh), R := d'.R ++ [⟨((hh.num % 2 : Nat) : Int), Wl.headB hh⟩] }, ?_, a3, ?_, ?_⟩
  · unfold Wl.layW
    rw [a1, if_neg (by simp)]
    refine e.trans ?_
    rw [show n - l.length - 1 = n - (l.length + 1) by omega]
  · show d'.S.set _ _ = _; rw [a4]
  · show (d'.R ++ [_]).length = _; rw [List.length_append, List.length_singleton, a5]; omega
/-- the bytes of a half up to a place -/
theorem flat_split {S : List ByteArray} (h8 : D.A128 S) {f q m : Nat} (hf : f + q < S.length) (hm : m ≤ 128) : (Wl.flat (S.drop f)).take (q * 128 + m) = Wl.flat ((S.take (f + q)).drop f) ++ (S.getD (f + q) ByteArray.empty).data.toList.take m := by
  have h8f := drop128 h8 f
  have hq : q < (S.drop f).length := by rw [List.length_drop]; omega
  have hsec : S.getD (f + q) ByteArray.empty = (S.drop f)[q] := by
    rw [List.getD_eq_getElem?_getD, List.getElem?_eq_getElem hf, List.getElem_drop]; rfl
  have hAl : ((Wl.flat (S.drop f)).take (q * 128)).length = q * 128 := by rw [List.length_take, flat_len h8f]; omega
  have e1 : (Wl.flat (S.drop f)).take (q * 128 + m) = ((Wl.flat (S.drop f)).take ((q + 1) * 128)).take (q * 128 + m) := by rw [List.take_take]; congr 1; omega
  rw [e1, flat_at h8f hq, List.take_append, hAl, List.take_of_length_le (by rw [hAl]; omega), hsec, List.drop_take, show f + q - f = q by omega, flat_take h8f q (by omega), show q * 128 + m - q * 128 = m by omega]
/-- sectors that agree as far as a log goes -/
structure Near (S S' : List ByteArray) (f used : Nat) : Prop where
  len : S'.length = S.length
  a8 : D.A128 S'
  ahead : (S'.take (f + used / 128)).drop f = (S.take (f + used / 128)).drop f
  at_ : (S'.getD (f + used / 128) ByteArray.empty).data.toList.take (used % 128) = (S.getD (f + used / 128) ByteArray.empty).data.toList.take (used % 128)
theorem Near.stands {S S' : List ByteArray} {h : Hd} (h8 : D.A128 S) (hn : Near S S' (Wl.first S.length h.half) h.used) (hf : Wl.first S.length h.half + h.used / 128 < S.length) : Wl.stands S' h = Wl.stands S h := by
  unfold Wl.stands
  rw [hn.len]
  have hm : h.used % 128 ≤ 128 := Nat.le_of_lt (Nat.mod_lt _ (by decide))
  have hu : h.used = h.used / 128 * 128 + h.used % 128 := by omega
  have e1 := flat_split h8 (m := h.used % 128) hf hm
  have e2 := flat_split hn.a8 (f := Wl.first S.length h.half) (q := h.used / 128) (m := h.used % 128) (by rw [hn.len]; exact hf) hm
  rw [← hu] at e1 e2
  rw [e1, e2, hn.ahead, hn.at_]
/-- a whole half that agrees -/
theorem half_stands {S S' : List ByteArray} {h : Hd} (h8 : D.A128 S) (h8' : D.A128 S') (hl : S'.length = S.length) (hu : h.used ≤ Wl.hb S.length) (hf : Wl.first S.length h.half + Wl.hs S.length ≤ S.length) (ha : (S'.drop (Wl.first S.length h.half)).take (Wl.hs S.length) = (S.drop (Wl.first S.length h.half)).take (Wl.hs S.length)) : Wl.stands S' h = Wl.stands S h := by
  unfold Wl.stands
  rw [hl]
  have e : ∀ X : List ByteArray, D.A128 X → X.length = S.length → (Wl.flat (X.drop (Wl.first S.length h.half))).take h.used = (Wl.flat ((X.drop (Wl.first S.length h.half)).take (Wl.hs S.length))).take h.used := fun X hX hXl => by
    rw [flat_take (drop128 hX _) _ (by rw [List.length_drop]; omega), List.take_take]
    congr 1
    unfold Wl.hb at hu
    omega
  rw [e S' h8' hl, e S h8 rfl, ha]
theorem putS_128 {S : List ByteArray} (h8 : D.A128 S) {k : Nat} {l : List ByteArray} (hl : ∀ s ∈ l, s.size = 128) : D.A128 (putS S k l) := by
  intro s hs
  unfold putS at hs
  rcases List.mem_append.1 hs with hs | hs
  · exact h8 s (List.mem_of_mem_take hs)
  · rcases List.mem_append.1 hs with hs | hs
    · exact hl s hs
    · exact h8 s (List.mem_of_mem_drop hs)
theorem putS_take {S : List ByteArray} {k : Nat} {l : List ByteArray} (hk : k ≤ S.length) : (putS S k l).take k = S.take k := by
  unfold putS
  rw [List.take_append_of_le_length (by rw [List.length_take]; omega), List.take_take, Nat.min_self]
theorem putS_at {S : List ByteArray} {k : Nat} {s : ByteArray} {l : List ByteArray} (hk : k ≤ S.length) : (putS S k (s :: l)).getD k ByteArray.empty = s := by
  unfold putS
  rw [List.getD_eq_getElem?_getD, List.getElem?_append_right (by rw [List.length_take]; omega), List.length_take, show k - min k S.length = 0 by omega]
  rfl
/-- a beginning of what is laid, the rest as it was -/
theorem laid_take {x o : ByteArray} (hx : x.size = 128) {m B : Nat} (hB : B ≤ 128) (h : x.data.toList.take m = o.data.toList.take m) : (D.laid (x.extract 0 B) o).data.toList.take m = o.data.toList.take m := by
  have hs : (x.extract 0 B).size = B := by rw [D.ext_size, hx]; omega
  have e : (D.laid (x.extract 0 B) o).data.toList = x.data.toList.take B ++ o.data.toList.drop B := by
    rw [D.laid_list, hs]; congr 1; simp
  have hl : x.data.toList.length = 128 := by rw [← D.size_list]; exact hx
  have htl : (x.data.toList.take B).length = B := by rw [List.length_take, hl]; omega
  rw [e]
  by_cases hm : m ≤ B
  · rw [List.take_append_of_le_length (by rw [htl]; exact hm), List.take_take, show min m B = m by omega, h]
  · rw [List.take_append, htl, List.take_of_length_le (by rw [htl]; omega), ← List.drop_take, ← h]
    have : x.data.toList.take B = (x.data.toList.take m).take B := by rw [List.take_take, show min B m = B by omega]
    rw [this, List.take_append_drop]
end Go.Proofs.Ytojghjgbnnkldaa
end

section
namespace Go.Proofs.Ytojghjgbnnkldaa
open Go.RowKit Go.Shelf
open Wl (Hd WS Log)

theorem getD_lay_far {S : List ByteArray} {k j : Nat} (h : k ≠ j) (x : ByteArray) : (D.layS S k x).getD j ByteArray.empty = S.getD j ByteArray.empty := getD_set_far h _
theorem getD_lay {S : List ByteArray} {k : Nat} (h : k < S.length) (x : ByteArray) : (D.layS S k x).getD k ByteArray.empty = D.laid x (S.getD k ByteArray.empty) := getD_set_self h _
theorem ext_all {x : ByteArray} (h : x.size = 128) : x.extract 0 128 = x := by
  apply D.ba_ext
  have : x.data.toList.length = 128 := by rw [← D.size_list]; exact h
  rw [show (x.extract 0 128).data.toList = x.data.toList.take 128 by simp]
  exact List.take_of_length_le (by omega)
theorem list_getD_mem {l : List ByteArray} {j : Nat} (h : j < l.length) : l.getD j ByteArray.empty ∈ l := by
  rw [List.getD_eq_getElem?_getD, List.getElem?_eq_getElem h]; exact List.getElem_mem h
/-- what a lay under a cut leaves: its answer, and the log -/
structure Lay (d : D.DS) (ws ws1 : WS) (s s1 : ByteArray) (l l1 : List ByteArray) (K n : Nat) (B : Int) (Y : Int × D.DS) : Prop where
  ok : Y.2.ok
  len : Y.2.S.length = d.S.length
  ways : (Y.1 = 0 ∧ (n = 0 ∨ K + 1 < n) ∧ Y.2.dead = false ∧ Y.2.R.length = d.R.length + (K + 1) ∧ ConX Y.2.revive ws1 s1 l1) ∨
    (Y.1 = 2 ∧ 1 ≤ n ∧ n ≤ K + 1 ∧ Y.2.dead = true ∧ Y.2.R.length = d.R.length + (n - 1) ∧ ((n = K + 1 ∧ B = 128 ∧ ConX Y.2.revive ws1 s1 l1) ∨ (¬ (n = K + 1 ∧ B = 128) ∧ ConX Y.2.revive ws s l)))
theorem lay_armed {d : D.DS} {ws ws1 : WS} {s s1 : ByteArray} {l l1 : List ByteArray} (h : ConX d ws s l) {k : Nat} {X : List ByteArray} {hh : Hd} (hk : 2 ≤ k) (hkl : k + X.length ≤ d.S.length) (h8 : ∀ x ∈ X, x.size = 128) (hhn : hh.num = ws.h.num + 1)
    (hst1 : ∀ j B, j < X.length → B ≤ 128 → Wl.stands (D.layS (putS d.S k (X.take j)) (k + j) ((X.getD j ByteArray.empty).extract 0 B)) ws.h = Wl.stands d.S ws.h)
    (hst2 : ∀ B, B ≤ 128 → Wl.stands (D.layS (putS d.S k X) (hh.num % 2) ((Wl.headB hh).extract 0 B)) ws.h = Wl.stands d.S ws.h)
    (hnew : ∀ d' : D.DS, d'.S = (putS d.S k X).set (hh.num % 2) (Wl.headB hh) → d'.ok → d'.dead = false → d'.left = 0 → ConX d' ws1 s1 l1) {n : Nat} (hn : n ≤ 9223372036854775807) {B : Int} (hB0 : 0 ≤ B) (hB1 : B ≤ 128) :
    Lay d ws ws1 s s1 l l1 X.length n B (Wl.layW (armed d n B) k X hh) := by
  have h2 : 2 ≤ d.S.length := by omega
  have hok := layW_ok (armed_ok h.con.ok hn hB0 hB1) k X hh
  have hrok := revive_ok hok
  have hi : hh.num % 2 < 2 := Nat.mod_lt _ (by decide)
  have hi2 : ws.h.num % 2 < 2 := Nat.mod_lt _ (by decide)
  have hBt : B.toNat ≤ 128 := by omega
  have e1 : 1 - ws.h.num % 2 = hh.num % 2 := by rw [hhn]; omega
  have hne : hh.num % 2 ≠ ws.h.num % 2 := by rw [hhn]; omega
  by_cases hgo : n = 0 ∨ X.length + 1 < n
  · obtain ⟨d', a1, a2, a3, a4⟩ := layW_go h.con.ok h.con.live hkl h8 h2 hh (B := B) hgo
    rw [a1] at hok hrok ⊢
    refine ⟨hok, ?_, .inl ⟨rfl, hgo, a2, a4, hnew _ a3 hrok rfl rfl⟩⟩
    show d'.S.length = _
    rw [a3, List.length_set, putS_len hkl]
  · by_cases hhd : n = X.length + 1
    · obtain ⟨a1, a2, a3, a4⟩ := layW_head h.con.ok h.con.live hkl h8 h2 hh (B := B) hhd
      generalize Wl.layW (armed d n B) k X hh = Y at *
      refine ⟨hok, by rw [a3, D.layS_len, putS_len hkl], .inr ⟨a1, by omega, by omega, a2, a4, ?_⟩⟩
      by_cases hB : B = 128
      · refine .inl ⟨hhd, hB, hnew _ ?_ hrok rfl rfl⟩
        show Y.2.S = _
        rw [a3, hB, show (128 : Int).toNat = 128 from rfl, ext_all (Wl.headB_size hh), lay_all (putS_128 h.con.ok.s128 h8) (by rw [putS_len hkl]; omega) (Wl.headB_size hh)]
      · refine .inr ⟨fun e => hB e.2, h.keeps (by show Y.2.S.length = _; rw [a3, D.layS_len, putS_len hkl]) ?_ ?_ ?_ hrok rfl rfl⟩
        · show Y.2.S.getD _ _ = _
          rw [a3, getD_lay_far hne, getD_put (by omega) (by omega)]
        · show Oth (Y.2.S.getD _ _) _
          rw [a3, e1, getD_lay (by rw [putS_len hkl]; omega), getD_put (by omega) (by omega)]
          refine Oth.torn (by rw [← e1]; exact h.oth) hhn (by omega)
        · show Wl.stands Y.2.S _ = _
          rw [a3]; exact hst2 _ hBt
    · obtain ⟨a1, a2, a3, a4⟩ := layW_cut h.con.ok h.con.live hkl h8 hh (B := B) (n := n) (by omega) (by omega)
      generalize Wl.layW (armed d n B) k X hh = Y at *
      have htl : k + (X.take (n - 1)).length ≤ d.S.length := by rw [List.length_take]; omega
      refine ⟨hok, by rw [a3, D.layS_len, putS_len htl], .inr ⟨a1, by omega, by omega, a2, a4, .inr ⟨fun e => hhd e.1, h.keeps (by show Y.2.S.length = _; rw [a3, D.layS_len, putS_len htl]) ?_ ?_ ?_ hrok rfl rfl⟩⟩⟩
      · show Y.2.S.getD _ _ = _
        rw [a3, getD_lay_far (by omega), getD_put (by omega) (by omega)]
      · show Oth (Y.2.S.getD _ _) _
        rw [a3, getD_lay_far (by omega), getD_put (by omega) (by omega)]
        exact h.oth
      · show Wl.stands Y.2.S _ = _
        rw [a3]; exact hst1 _ _ (by omega) hBt
end Go.Proofs.Ytojghjgbnnkldaa
end
