import Derived.Test.YteiickpokabmoabWlKa
namespace Go.Proofs.Yteiickpokabmoab
open Go.RowKit Go.Shelf
open Wl (Hd WS Log)

/-- the loop's state -/
structure KpI (w0 : World) (b W : Nat) (v : Value) (l : List ByteArray) (d : D.DS) (ws : WS) (F : Nat → Prop) (w : World) : Prop where
  con : Con d ws ⟨#[]⟩ l
  sl : d.S.length = 20
  nm : ws.h.num = 1 + l.length
  rl : d.R.length ≤ 1 + 600 * l.length
  dk : D.Dk w0.heap.size w b F d
  wm : Wm w W b ws
  nf : ¬ F W
  hW : w0.heap.size ≤ W
  own : w.ownsRow w0.heap.size 9 1 v l.length (l.map .string)
  bel : Below w0.heap.size w0 w
theorem KpI.small {w0 : World} {b W : Nat} {v : Value} {l : List ByteArray} {d : D.DS} {ws : WS} {F : Nat → Prop} {w : World} (h : KpI w0 b W v l d ws F w) : l.length ≤ 65536 := by
  have := h.con.wok.rc; rw [h.con.rc] at this; exact this
theorem KpI.R {w0 : World} {b W : Nat} {v : Value} {l : List ByteArray} {d : D.DS} {ws : WS} {F : Nat → Prop} {w : World} (h : KpI w0 b W v l d ws F w) : (d.R.length + 600) * 24 ≤ 140737488355328 := by
  have h1 := h.small
  have h2 := h.rl
  exact Nat.le_trans (Nat.mul_le_mul_right 24 (show d.R.length + 600 ≤ 100000000 by omega)) (by decide)
/-- only new blocks -/
theorem KpI.below {w0 : World} {b W : Nat} {v : Value} {l : List ByteArray} {d : D.DS} {ws : WS} {F : Nat → Prop} {w w' : World} (h : KpI w0 b W v l d ws F w) (hb : Below w.heap.size w w') : KpI w0 b W v l d ws F w' :=
  ⟨h.con, h.sl, h.nm, h.rl, h.dk.below hb, h.wm.below hb, h.nf, h.hW, D.own_keep h.own fun k hk => hb.block k (own_lo h.own hk).2, h.bel.trans (hb.mono h.bel.size)⟩
/-- a call of Append -/
theorem KpI.called {w0 : World} {b W : Nat} {v : Value} {l l' : List ByteArray} {d d' : D.DS} {ws ws' : WS} {F F' : Nat → Prop} {w w' : World} (h : KpI w0 b W v l d ws F w) (hC : Con d' ws' ⟨#[]⟩ l') (hs : d'.S.length = 20) (hn : ws'.h.num = 1 + l'.length) (hr : d'.R.length ≤ 1 + 600 * l'.length)
    (hD : D.Dk w0.heap.size w' b F' d') (hW : Wm w' W b ws') (hM : D.Mv (FW F W) (FW F' W) w w') (hf : ¬ F' W) : Con d' ws' ⟨#[]⟩ l' ∧ d'.S.length = 20 ∧ ws'.h.num = 1 + l'.length ∧ d'.R.length ≤ 1 + 600 * l'.length ∧ D.Dk w0.heap.size w' b F' d' ∧ Wm w' W b ws' ∧ ¬ F' W ∧ w'.ownsRow w0.heap.size 9 1 v l.length (l.map .string) ∧ Below w0.heap.size w0 w' := by
  refine ⟨hC, hs, hn, hr, hD, hW, hf, D.own_keep h.own fun k hk => ?_, h.bel.trans (hM.below h.bel.size fun k hk => ?_)⟩
  · obtain ⟨cs, hcs⟩ := own_blk h.own hk
    exact hM.block k (lt_of_block hcs) (fun e => by rcases e with e | e; exact dk_str h.dk hcs e; exact wm_str h.wm hcs e)
  · rcases hk with hk | hk
    · exact h.dk.ftlow k hk
    · rw [hk]; exact h.hW
/-- what is wanted grows -/
theorem KpI.grown {w0 : World} {b W : Nat} {v v' : Value} {l l' : List ByteArray} {d : D.DS} {ws : WS} {F : Nat → Prop} {w w1 w' : World} {xs : List Value} (hC : Con d ws ⟨#[]⟩ l') (hs : d.S.length = 20) (hn : ws.h.num = 1 + l'.length) (hr : d.R.length ≤ 1 + 600 * l'.length) (hD : D.Dk w0.heap.size w b F d) (hW : Wm w W b ws) (hf : ¬ F W) (hWl : w0.heap.size ≤ W) (ho : w.ownsRow w0.heap.size 9 1 v l.length xs) (hb : Below w0.heap.size w0 w)
    (h1 : Below w.heap.size w w1) (hg : w1.grownBy w' v.ownBlock) (ho' : w'.ownsRow w0.heap.size 9 1 v' l'.length (l'.map .string)) : KpI w0 b W v' l' d ws F w' := by
  have hk : ∀ k, k < w.heap.size → v.ownBlock ≠ some k → w'.heap[k]? = w.heap[k]? := fun k hk hn => (hg.block k (Nat.lt_of_lt_of_le hk h1.size) (Ne.symm hn)).trans (h1.block k hk)
  refine ⟨hC, hs, hn, hr, hD.keep fun k hk' => hk k (hD.ftlt k hk').2 (fun e => ?_), (hk W (lt_of_block hW) (fun e => ?_)).trans hW, hf, hWl, ho', (hb.trans (h1.mono hb.size)).grown hg (Nat.le_trans hb.size h1.size) (fun k hk' => (own_lo ho hk').1)⟩
  · obtain ⟨cs, hcs⟩ := own_blk ho e; exact dk_str hD hcs hk'
  · obtain ⟨cs, hcs⟩ := own_blk ho e; exact wm_str hW hcs rfl
theorem records_any {w : World} {W b : Nat} {ws : WS} (hw : Wm w W b ws) : Calls Try.prog 13 #[.pointer (some ⟨W, 0, none⟩)] w fun e w' => e = .returned (.int .i64 (ws.rc : Int)) ∧ w' = w := by
  obtain ⟨c0, c1, c2, c3, c4, c5, c6, cz⟩ := wm_cells hw
  have hl := lt_of_block hw
  clear hw
  go_enter Try.func13, Try.ntmps13
  go_wp2
  go_ret
  exact ⟨rfl, rfl⟩
theorem own_put {w : World} {base e size n g : Nat} {v : Value} {xs : List Value} (h : w.ownsRow base e size v n xs) (hv : v.ownBlock = some g) (i : Nat) (u : Value) : ∃ ys, (w.setCell ⟨g, i, none⟩ u).ownsRow base e size v n ys := by
  rcases h.2 with ⟨rfl, _⟩ | ⟨g', cap, cur, rfl, hb, hgg, hn, hm, hc, ht⟩
  · cases hv
  · injection hv with hv
    have hv : g' = g := hv
    subst hv
    refine ⟨(cur.setIfInBounds i u).toList.take (n * size), ?_, .inr ⟨g', cap, cur.setIfInBounds i u, rfl, hb, heap_set_self w g' i u cur _ _ hgg, hn, hm, by simpa using hc, rfl⟩⟩
    rw [List.length_take, Array.length_toList, Array.size_setIfInBounds, hc]
    exact Nat.min_eq_left (Nat.mul_le_mul_right _ hn)
/-- all but one row of texts stays -/
theorem KpI.but {w0 : World} {b W : Nat} {v A : Value} {l : List ByteArray} {d : D.DS} {ws : WS} {F : Nat → Prop} {w w' : World} (h : KpI w0 b W v l d ws F w) (hA : ∀ g, A.ownBlock = some g → (∃ cs, w.heap[g]? = some (.cells cs 9 (0, 0))) ∧ v.ownBlock ≠ some g)
    (hk : ∀ k, k < w.heap.size → A.ownBlock ≠ some k → w'.heap[k]? = w.heap[k]?) (hb : Below w0.heap.size w0 w') : KpI w0 b W v l d ws F w' := by
  refine ⟨h.con, h.sl, h.nm, h.rl, h.dk.keep fun k hk' => hk k (h.dk.ftlt k hk').2 (fun e => ?_), (hk W (lt_of_block h.wm) (fun e => ?_)).trans h.wm, h.nf, h.hW, D.own_keep h.own fun k hk' => hk k (own_lo h.own hk').2 (fun e => (hA k e).2 hk'), hb⟩
  · obtain ⟨⟨cs, hcs⟩, _⟩ := hA k e; exact dk_str h.dk hcs hk'
  · obtain ⟨⟨cs, hcs⟩, _⟩ := hA W e; exact wm_str h.wm hcs rfl
end Go.Proofs.Yteiickpokabmoab
