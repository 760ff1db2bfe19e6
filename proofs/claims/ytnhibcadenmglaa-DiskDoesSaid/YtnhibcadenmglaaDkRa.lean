import Derived.Test.YtnhibcadenmglaaDkZ
namespace Go.Proofs.Ytnhibcadenmglaa
open Go.RowKit

/-- a disk of the document: its block, and the two rows that it reads (they may be shared, and are never turned) -/
structure RkV (B : Nat) (w : World) (c : Nat) (adS : Option Addr) (cS abS : Nat) (adR : Option Addr) (cR abR : Nat) (d : DS) : Prop where
  blk : w.heap[c]? = some (.cells #[.slice adS d.S.length cS, .slice adR d.R.length cR, .int .i64 d.left, .int .i64 d.byt, .bool d.dead] 65 (0, 0))
  low : B ≤ c
  rs : Rs w adS abS 0 d.S
  rr : Rw w adR abR 0 d.R
  ns : abS ≠ c
  nr : 0 < d.R.length → abR ≠ c
  ls : B ≤ abS
  lr : 0 < d.R.length → B ≤ abR
  ok : d.ok
def Gd (abS abR : Nat) (d : DS) (k : Nat) : Prop := k = abS ∨ (0 < d.R.length ∧ k = abR)
def Rk (B : Nat) (w : World) (c : Nat) (G : Nat → Prop) (d : DS) : Prop := ∃ adS cS abS adR cR abR, RkV B w c adS cS abS adR cR abR d ∧ G = Gd abS abR d
/-- c alone -/
def Is (c k : Nat) : Prop := k = c

section
variable {B : Nat} {w w' : World} {c : Nat} {adS : Option Addr} {cS abS : Nat} {adR : Option Addr} {cR abR : Nat} {d : DS} {G : Nat → Prop}
theorem RkV.lt (h : RkV B w c adS cS abS adR cR abR d) : c < w.heap.size := lt_of_block h.blk
theorem RkV.c0 (h : RkV B w c adS cS abS adR cR abR d) : w.cell? ⟨c, 0, none⟩ = some (.slice adS d.S.length cS) := by have := h.blk; simp [World.cell?, this]
theorem RkV.c1 (h : RkV B w c adS cS abS adR cR abR d) : w.cell? ⟨c, 1, none⟩ = some (.slice adR d.R.length cR) := by have := h.blk; simp [World.cell?, this]
theorem RkV.c2 (h : RkV B w c adS cS abS adR cR abR d) : w.cell? ⟨c, 2, none⟩ = some (.int .i64 d.left) := by have := h.blk; simp [World.cell?, this]
theorem RkV.c3 (h : RkV B w c adS cS abS adR cR abR d) : w.cell? ⟨c, 3, none⟩ = some (.int .i64 d.byt) := by have := h.blk; simp [World.cell?, this]
theorem RkV.c4 (h : RkV B w c adS cS abS adR cR abR d) : w.cell? ⟨c, 4, none⟩ = some (.bool d.dead) := by have := h.blk; simp [World.cell?, this]
theorem RkV.z (h : RkV B w c adS cS abS adR cR abR d) (k : Nat) : w.frozen? ⟨c, k, none⟩ = false := by have := h.blk; simp [World.frozen?, this]
theorem RkV.glt (h : RkV B w c adS cS abS adR cR abR d) : ∀ k, Gd abS abR d k → B ≤ k ∧ k < w.heap.size := by
  rintro k (rfl | ⟨h0, rfl⟩)
  · exact ⟨h.ls, h.rs.lt h.ok.s0⟩
  · exact ⟨h.lr h0, h.rr.lt h0⟩
theorem Rk.lt (h : Rk B w c G d) : c < w.heap.size := by obtain ⟨_, _, _, _, _, _, h, _⟩ := h; exact h.lt
theorem Rk.low (h : Rk B w c G d) : B ≤ c := by obtain ⟨_, _, _, _, _, _, h, _⟩ := h; exact h.low
theorem Rk.glt (h : Rk B w c G d) : ∀ k, G k → B ≤ k ∧ k < w.heap.size := by obtain ⟨_, _, _, _, _, _, h, rfl⟩ := h; exact h.glt
theorem Rk.ng (h : Rk B w c G d) : ¬ G c := by
  obtain ⟨_, _, _, _, _, _, h, rfl⟩ := h
  rintro (e | ⟨h0, e⟩)
  · exact h.ns e.symm
  · exact h.nr h0 e.symm
theorem RkV.keep (h : RkV B w c adS cS abS adR cR abR d) (hs : ∀ k, k = c ∨ Gd abS abR d k → w'.heap[k]? = w.heap[k]?) : RkV B w' c adS cS abS adR cR abR d :=
  ⟨(hs c (.inl rfl)).trans h.blk, h.low, h.rs.keep (fun _ => hs _ (.inr (.inl rfl))), h.rr.keep (fun h0 => hs _ (.inr (.inr ⟨h0, rfl⟩))), h.ns, h.nr, h.ls, h.lr, h.ok⟩
theorem Rk.keep (h : Rk B w c G d) (hs : ∀ k, k = c ∨ G k → w'.heap[k]? = w.heap[k]?) : Rk B w' c G d := by
  obtain ⟨a1, a2, a3, a4, a5, a6, h, rfl⟩ := h
  exact ⟨a1, a2, a3, a4, a5, a6, h.keep hs, rfl⟩
theorem Rk.below (h : Rk B w c G d) (hb : Below w.heap.size w w') : Rk B w' c G d := h.keep fun k hk => hb.block k (hk.elim (fun e => by rw [e]; exact h.lt) (fun hg => (h.glt k hg).2))
theorem Rk.drew (h : Rk B w c G d) : Rk B w.drew c G d := h.keep fun _ _ => rfl
theorem Rk.alloc (h : Rk B w c G d) (o : Obj) : Rk B (w.alloc o) c G d := h.below ((Below.refl _ w).alloc (Nat.le_refl _) o)
theorem Rk.mv {F F' : Nat → Prop} (h : Rk B w c G d) (hm : Mv F F' w w') (hc : ¬ F c) (hg : ∀ k, G k → ¬ F k) : Rk B w' c G d :=
  h.keep fun k hk => hk.elim (fun e => by rw [e]; exact hm.block c h.lt hc) (fun hk => hm.block k (h.glt k hk).2 (hg k hk))
theorem Rk.lower (h : Rk B w c G d) {B' : Nat} (hB : B' ≤ B) : Rk B' w c G d := by
  obtain ⟨a1, a2, a3, a4, a5, a6, h, rfl⟩ := h
  exact ⟨a1, a2, a3, a4, a5, a6, ⟨h.blk, Nat.le_trans hB h.low, h.rs, h.rr, h.ns, h.nr, Nat.le_trans hB h.ls, fun h0 => Nat.le_trans hB (h.lr h0), h.ok⟩, rfl⟩
/-- its block is written to: numbers alone -/
theorem RkV.put {d' : DS} (h : RkV B w c adS cS abS adR cR abR d) (hb : w'.heap[c]? = some (.cells #[.slice adS d.S.length cS, .slice adR d.R.length cR, .int .i64 d'.left, .int .i64 d'.byt, .bool d'.dead] 65 (0, 0)))
    (hs : ∀ k, k ≠ c → w'.heap[k]? = w.heap[k]?) (hS : d'.S = d.S) (hR : d'.R = d.R) (ok : d'.ok) : RkV B w' c adS cS abS adR cR abR d' :=
  ⟨by rw [hS, hR]; exact hb, h.low, by rw [hS]; exact h.rs.keep (fun _ => hs _ h.ns), by rw [hR]; exact h.rr.keep (fun h0 => hs _ (h.nr h0)), h.ns, by rw [hR]; exact h.nr, h.ls, by rw [hR]; exact h.lr, ok⟩
theorem Gd.same {d' : DS} (hR : d'.R = d.R) : Gd abS abR d' = Gd abS abR d := by unfold Gd; rw [hR]
end

set_option maxHeartbeats 1000000 in
theorem rread_any {B : Nat} {w : World} {c : Nat} {G : Nat → Prop} {d : DS} (h : Rk B w c G d) (k : Int) :
    Calls Try.prog 44 #[.pointer (some ⟨c, 0, none⟩), .int .i64 k] w fun e w' => e = .returned (.tuple #[.string (d.read k).1, .int .i64 (d.read k).2]) ∧ w' = w := by
  obtain ⟨adS, cS, abS, adR, cR, abR, h, rfl⟩ := h
  have c0 := h.c0
  have c4 := h.c4
  have hS := h.ok.s1
  unfold DS.read
  cases hd : d.dead
  · rw [hd] at c4
    simp only [Bool.false_eq_true, if_false]
    by_cases hk : 0 ≤ k ∧ k < (d.S.length : Int)
    · rw [if_neg (by simpa using hk)]
      obtain ⟨n, rfl⟩ : ∃ n : Nat, k = (n : Int) := ⟨k.toNat, by omega⟩
      have hn : n < d.S.length := by omega
      have e1 := h.rs.cell n hn
      rw [Nat.zero_add] at e1
      have ea := h.rs.at_ (by omega)
      subst ea
      have hget : d.S.getD (n : Int).toNat ByteArray.empty = d.S[n] := by rw [Int.toNat_natCast, List.getD_eq_getElem?_getD, List.getElem?_eq_getElem hn]; rfl
      rw [hget]
      generalize d.S[n] = s at *
      have b1 : decide ((d.S.length : Int) ≤ (n : Int)) = false := by simp; omega
      clear h hk hget
      go_enter Try.func44, Try.ntmps44
      go_wp2
      go_ret2
      exact ⟨rfl, rfl⟩
    · rw [if_pos (by simpa using hk)]
      by_cases h0 : k < 0
      · have b0 : decide (k < 0) = true := by simpa using h0
        clear h hk h0
        go_enter Try.func44, Try.ntmps44
        go_wp2
        go_ret2
        exact ⟨rfl, rfl⟩
      · have b0 : decide (k < 0) = false := by simpa using h0
        have b1 : decide ((d.S.length : Int) ≤ k) = true := by simp; omega
        clear h hk h0
        go_enter Try.func44, Try.ntmps44
        go_wp2
        go_ret2
        exact ⟨rfl, rfl⟩
  · rw [hd] at c4
    simp only [if_true]
    clear h
    go_enter Try.func44, Try.ntmps44
    go_wp2
    go_ret2
    exact ⟨rfl, rfl⟩

set_option maxHeartbeats 400000 in
theorem rrevive_any {B : Nat} {w : World} {c : Nat} {G : Nat → Prop} {d : DS} (h : Rk B w c G d) :
    Calls Try.prog 47 #[.pointer (some ⟨c, 0, none⟩)] w fun e w' => e = .returned (.tuple #[]) ∧ Rk B w' c G d.revive ∧ Mv (Is c) (Is c) w w' := by
  obtain ⟨adS, cS, abS, adR, cR, abR, h, rfl⟩ := h
  have c2 := h.c2
  have c4 := h.c4
  have z := h.z
  have H := hide h
  clear h
  go_enter Try.func47, Try.ntmps47
  go_wp2
  go_end0
  refine ⟨rfl, ⟨_, _, _, _, _, _, H.out.put (d' := d.revive) ?_ (fun k hk => ?_) rfl rfl (DS.revive_ok H.out.ok), rfl⟩, ((Mv.refl (F := Is c) w).set (show Is c c from rfl) _).set (show Is c c from rfl) _⟩
  · rw [setFive (setFive H.out.blk 4 _) 2 _]; rfl
  · rw [Below.heap_setCell _ _ _ k hk, Below.heap_setCell _ _ _ k hk]

set_option maxHeartbeats 1000000 in
theorem rarm_any {B : Nat} {w : World} {c : Nat} {G : Nat → Prop} {d : DS} (h : Rk B w c G d) (n m : Int) (hn : n ≤ 9223372036854775807) :
    Calls Try.prog 46 #[.pointer (some ⟨c, 0, none⟩), .int .i64 n, .int .i64 m] w fun e w' => e = .returned (.int .i64 (d.arm n m).1) ∧ Rk B w' c G (d.arm n m).2 ∧ Mv (Is c) (Is c) w w' := by
  obtain ⟨adS, cS, abS, adR, cR, abR, h, rfl⟩ := h
  have c2 := h.c2
  have c3 := h.c3
  have c4 := h.c4
  have z := h.z
  have H := hide h
  have ho := DS.arm_ok (d := d) (b := m) h.ok hn
  clear h
  unfold DS.arm at ho ⊢
  cases hd : d.dead
  · rw [hd] at c4
    simp only [hd, Bool.false_eq_true, if_false] at ho ⊢
    by_cases h1 : n < 0
    · rw [if_pos (.inl h1)]
      have b0 : decide (n < 0) = true := by simp; omega
      clear ho
      go_enter Try.func46, Try.ntmps46
      go_wp2
      go_ret
      exact ⟨rfl, ⟨_, _, _, _, _, _, H.out, rfl⟩, Mv.refl _⟩
    · have b0 : decide (n < 0) = false := by simp; omega
      by_cases h2 : m < 0
      · rw [if_pos (.inr (by omega))]
        have b1 : decide (m < 0) = true := by simpa using h2
        clear ho
        go_enter Try.func46, Try.ntmps46
        go_wp2
        go_ret
        exact ⟨rfl, ⟨_, _, _, _, _, _, H.out, rfl⟩, Mv.refl _⟩
      · have b1 : decide (m < 0) = false := by simpa using h2
        by_cases h3 : 128 < m
        · rw [if_pos (.inr (by omega))]
          have b2 : decide (128 < m) = true := by simpa using h3
          clear ho
          go_enter Try.func46, Try.ntmps46
          go_wp2
          go_ret
          exact ⟨rfl, ⟨_, _, _, _, _, _, H.out, rfl⟩, Mv.refl _⟩
        · have b2 : decide (128 < m) = false := by simpa using h3
          rw [if_neg (by omega)] at ho ⊢
          have HO := hide ho
          clear ho h1 h2 h3
          go_enter Try.func46, Try.ntmps46
          go_wp2
          go_ret
          refine ⟨rfl, ⟨_, _, _, _, _, _, H.out.put ?_ (fun k hk => ?_) rfl rfl HO.out, rfl⟩, ((Mv.refl (F := Is c) w).set (show Is c c from rfl) _).set (show Is c c from rfl) _⟩
          · rw [setFive (setFive H.out.blk 2 _) 3 _, hd]; rfl
          · rw [Below.heap_setCell _ _ _ k hk, Below.heap_setCell _ _ _ k hk]
  · rw [hd] at c4
    simp only [hd, if_true] at ho ⊢
    clear ho
    go_enter Try.func46, Try.ntmps46
    go_wp2
    go_ret
    exact ⟨rfl, ⟨_, _, _, _, _, _, H.out, rfl⟩, Mv.refl _⟩

set_option maxHeartbeats 400000 in
theorem rcopy_any {B : Nat} {w : World} {c : Nat} {G : Nat → Prop} {d : DS} (h : Rk B w c G d) :
    Calls Try.prog 33 #[.pointer (some ⟨c, 0, none⟩)] w fun e w' => e = .returned (.pointer (some ⟨w.heap.size, 0, none⟩)) ∧ Rk B w' w.heap.size G d ∧ Below w.heap.size w w' := by
  obtain ⟨adS, cS, abS, adR, cR, abR, h, rfl⟩ := h
  have c0 := h.c0
  have c1 := h.c1
  have c2 := h.c2
  have c3 := h.c3
  have c4 := h.c4
  have H := hide h
  have hlt := h.lt
  clear h
  go_enter Try.func33, Try.ntmps33
  go_wp2
  go_ret
  have hb : Below w.heap.size w (w.alloc (.cells #[.slice adS d.S.length cS, .slice adR d.R.length cR, .int .i64 d.left, .int .i64 d.byt, .bool d.dead] 65)) := (Below.refl _ w).alloc (Nat.le_refl _) _
  refine ⟨rfl, ⟨adS, cS, abS, adR, cR, abR, ⟨heap_alloc_new w _, Nat.le_trans H.out.low (Nat.le_of_lt hlt), H.out.rs.below hb, H.out.rr.below hb, Nat.ne_of_lt (H.out.rs.lt H.out.ok.s0), fun h0 => Nat.ne_of_lt (H.out.rr.lt h0), H.out.ls, H.out.lr, H.out.ok⟩, rfl⟩, hb⟩
end Go.Proofs.Ytnhibcadenmglaa
