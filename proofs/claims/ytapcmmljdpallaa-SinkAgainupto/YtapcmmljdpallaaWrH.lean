import Derived.Test.YtapcmmljdpallaaWrG
namespace Go.Proofs.Ytapcmmljdpallaa
set_option maxRecDepth 20000
open Go.RowKit Go.Shelf
open Wr (Ms V L)

theorem Try.infoF : (Try.prog.info? 81).map (fun i => (i.zero, i.size, i.bytes)) = some (some (.agg #[.nilFunc, .nilFunc, .nilFunc, .nilFunc]), 4, 32) := by kernel_rfl
/-- the fields made so far -/
def FdAt (A base : Nat) (k : Int) (ls : List L) (n : Nat) (G I : Nat) (w : World) (xs : List Value) : Prop :=
  ∀ i (h : i < ls.length), i < n → ∃ bs, Fd A base k ls[i] bs w (xs.getD (4 * i) undef) (xs.getD (4 * i + 1) undef) (xs.getD (4 * i + 2) undef) (xs.getD (4 * i + 3) undef) ∧ G ∉ bs ∧ I ∉ bs
theorem FdAt.keep {A base : Nat} {k : Int} {ls : List L} {n G I : Nat} {w w' : World} {xs : List Value} (h : FdAt A base k ls n G I w xs) (hk : ∀ j, base ≤ j → j < w.heap.size → j ≠ G → j ≠ I → w'.heap[j]? = w.heap[j]?) : FdAt A base k ls n G I w' xs := by
  intro i hi hn
  obtain ⟨bs, hF, h1, h2⟩ := h i hi hn
  exact ⟨bs, hF.keep (fun j hj => hk j (hF.high j hj).1 (hF.high j hj).2 (fun e => h1 (e ▸ hj)) (fun e => h2 (e ▸ hj))), h1, h2⟩
theorem FdAt.move {A base : Nat} {k : Int} {ls : List L} {n G G' I : Nat} {w : World} {xs : List Value} (h : FdAt A base k ls n G I w xs) (hG : w.heap.size ≤ G' ∨ G' = G) : FdAt A base k ls n G' I w xs := by
  intro i hi hn
  obtain ⟨bs, hF, h1, h2⟩ := h i hi hn
  refine ⟨bs, hF, ?_, h2⟩
  rcases hG with hG | rfl
  · intro hm; have := (hF.high _ hm).2; omega
  · exact h1
theorem getD_left {xs ys : List Value} {i : Nat} (h : i < xs.length) : (xs ++ ys).getD i undef = xs.getD i undef := by
  simp [List.getD_eq_getElem?_getD, List.getElem?_append_left h]
theorem getD_right {xs ys : List Value} {n j : Nat} (h : xs.length = n) : (xs ++ ys).getD (n + j) undef = ys.getD j undef := by
  subst h; rw [List.getD_eq_getElem?_getD, List.getD_eq_getElem?_getD, List.getElem?_append_right (by omega)]; congr 2; omega
theorem FdAt.snoc {A base : Nat} {k : Int} {ls : List L} {n G I : Nat} {w : World} {xs : List Value} {v0 v1 v2 v3 : Value} {bs : List Nat} (h : FdAt A base k ls n G I w xs) (hx : xs.length = n * 4) (hn : n < ls.length) (hF : Fd A base k ls[n] bs w v0 v1 v2 v3) (h1 : G ∉ bs) (h2 : I ∉ bs) :
    FdAt A base k ls (n + 1) G I w (xs ++ [v0, v1, v2, v3]) := by
  intro i hi hlt
  by_cases e : i = n
  · subst e
    refine ⟨bs, ?_, h1, h2⟩
    rw [show 4 * i = i * 4 + 0 by omega, getD_right hx, show i * 4 + 0 + 1 = i * 4 + 1 by omega, getD_right hx, show i * 4 + 0 + 2 = i * 4 + 2 by omega, getD_right hx, show i * 4 + 0 + 3 = i * 4 + 3 by omega, getD_right hx]
    exact hF
  · obtain ⟨bs', hF', g1, g2⟩ := h i hi (by omega)
    refine ⟨bs', ?_, g1, g2⟩
    rw [getD_left (by omega), getD_left (by omega), getD_left (by omega), getD_left (by omega)]
    exact hF'
theorem len_ite {c : Prop} [Decidable c] {a b : List L} (ha : a.length ≤ 5) (hb : b.length ≤ 5) : (if c then a else b).length ≤ 5 := by
  by_cases h : c
  · rw [if_pos h]; exact ha
  · rw [if_neg h]; exact hb
theorem letters_five (k : Int) : (Wr.letters k).length ≤ 5 := by
  unfold Wr.letters
  repeat (refine len_ite (by decide) ?_)
  decide
structure FsInv (w : World) (A I G : Nat) (m : Ms) (ls : List L) (i cap : Nat) (xs : List Value) (w' : World) : Prop where
  own : w'.ownsRow w.heap.size 81 4 (.slice (some ⟨G, 0, none⟩) i cap) i xs
  it : w'.heap[I]? = some (.stringIter (lstr ls) i)
  ne : I ≠ G
  lo : w.heap.size ≤ I
  mg : Mg w' A m
  bl : Below w.heap.size w w'
  fd : FdAt A w.heap.size m.k ls i G I w' xs
theorem own_keep {w w' : World} {base : Nat} {e : TypeId} {sz : Nat} {v : Value} {n : Nat} {xs : List Value} (h : w.ownsRow base e sz v n xs) (hk : ∀ k, v.ownBlock = some k → w'.heap[k]? = w.heap[k]?) : w'.ownsRow base e sz v n xs := by
  obtain ⟨h1, h2⟩ := h
  refine ⟨h1, ?_⟩
  rcases h2 with h2 | ⟨g, cap, cur, hv, hg, hb, r⟩
  · exact .inl h2
  · exact .inr ⟨g, cap, cur, hv, hg, (hk g (by rw [hv]; rfl)).trans hb, r⟩
theorem own_lt {w : World} {base : Nat} {e : TypeId} {sz G n c m : Nat} {xs : List Value} (h : w.ownsRow base e sz (.slice (some ⟨G, 0, none⟩) n c) m xs) : base ≤ G ∧ G < w.heap.size := by
  obtain ⟨h1, h2⟩ := h
  rcases h2 with ⟨h2, _⟩ | ⟨g, cap, cur, hv, hg, hb, r⟩
  · cases h2
  · cases hv; exact ⟨hg, lt_of_block hb⟩
theorem FsInv.mid {w : World} {A I G : Nat} {m : Ms} {ls : List L} {i cap : Nat} {xs : List Value} {wr w3 : World} (hA : A < w.heap.size) (h : FsInv w A I G m ls i cap xs wr) (hb : Below (iterSet wr I (lstr ls) (i + 1)).heap.size (iterSet wr I (lstr ls) (i + 1)) w3) :
    w3.ownsRow w.heap.size 81 4 (.slice (some ⟨G, 0, none⟩) i cap) i xs ∧ w3.heap[I]? = some (.stringIter (lstr ls) (i + 1)) ∧ Mg w3 A m ∧ Below w.heap.size w w3 ∧ FdAt A w.heap.size m.k ls i G I w3 xs ∧ wr.heap.size ≤ w3.heap.size := by
  have hI := lt_of_block h.it
  have hG := own_lt h.own
  have hk : ∀ j, j < wr.heap.size → j ≠ I → w3.heap[j]? = wr.heap[j]? := fun j hj hn => (hb.block j (by rw [iterSet_size]; exact hj)).trans (iterSet_other hn)
  have hs : wr.heap.size ≤ w3.heap.size := by have := hb.size; rw [iterSet_size] at this; exact this
  have hws := h.bl.size
  refine ⟨own_keep h.own fun k e => ?_, (hb.block I (by rw [iterSet_size]; exact hI)).trans (iterSet_same hI), h.mg.block (hk A (by omega) (by have := h.lo; omega)), ?_, h.fd.keep fun j _ hj _ h2 => hk j hj h2, hs⟩
  · cases e; exact hk G hG.2 (Ne.symm h.ne)
  · exact ⟨hb.os.trans h.bl.os, hb.tape.trans h.bl.tape, hb.output.trans h.bl.output, by omega, fun j hj => (hk j (by omega) (by have := h.lo; omega)).trans (h.bl.block j hj)⟩
theorem FsInv.step {w : World} {A I G : Nat} {m : Ms} {ls : List L} {i cap : Nat} {xs : List Value} {wr w3 w4 : World} {v0 v1 v2 v3 : Value} {bs : List Nat} {g3 cap3 : Nat} {o : Obj} (hA : A < w.heap.size) (h : FsInv w A I G m ls i cap xs wr)
    (hb : Below (iterSet wr I (lstr ls) (i + 1)).heap.size (iterSet wr I (lstr ls) (i + 1)) w3) (hi : i < ls.length) (hF : Fd A ((iterSet wr I (lstr ls) (i + 1)).heap.size + 1) m.k ls[i] bs w3 v0 v1 v2 v3)
    (hown : w4.ownsRow w.heap.size 81 4 (.slice (some ⟨g3, 0, none⟩) (i + 1) cap3) (i + 1) (xs ++ [v0, v1, v2, v3])) (hgr : (w3.alloc o).grownBy w4 (some G)) (hat : some G = some g3 ∨ g3 = (w3.alloc o).heap.size) :
    FsInv w A I g3 m ls (i + 1) cap3 (xs ++ [v0, v1, v2, v3]) w4 := by
  obtain ⟨a1, a2, a3, a4, a5, a6⟩ := h.mid hA hb
  have hI := lt_of_block h.it
  have hG := own_lt h.own
  have hlo := h.lo
  rw [iterSet_size] at hF
  have hsz : (w3.alloc o).heap.size = w3.heap.size + 1 := by simp
  have hk : ∀ j, j < w3.heap.size → j ≠ G → w4.heap[j]? = w3.heap[j]? := fun j hj hn => (hgr.block j (by omega) (by simpa using hn)).trans (Below.heap_alloc w3 o j hj)
  have hs4 := hgr.size
  have hg3 : g3 = G ∨ g3 = w3.heap.size + 1 := by rcases hat with e | e
                                                  · left; cases e; rfl
                                                  · right; omega
  have hws := h.bl.size
  have hFk : Fd A w.heap.size m.k ls[i] bs w4 v0 v1 v2 v3 := (hF.keep fun j hj => hk j (hF.high j hj).2 (by have := (hF.high j hj).1; omega)).mono (by omega)
  refine ⟨hown, (hk I (by omega) h.ne).trans a2, ?_, hlo, a3.block (hk A (by omega) (by omega)), ?_, ?_⟩
  · rcases hg3 with e | e
    · rw [e]; exact h.ne
    · omega
  · exact ⟨hgr.os.trans a4.os, hgr.tape.trans a4.tape, hgr.output.trans a4.output, by omega, fun j hj => (hk j (by omega) (by omega)).trans (a4.block j hj)⟩
  · have hx : xs.length = i * 4 := a1.1
    refine FdAt.snoc ?_ hx hi hFk ?_ ?_
    · have b1 := a5.move (G' := g3) (by rcases hg3 with e | e
                                        · exact .inr e
                                        · left; omega)
      intro i' hi' hn'
      obtain ⟨bs', f1, f2, f3⟩ := b1 i' hi' hn'
      obtain ⟨bs'', f1', f2', f3'⟩ := a5 i' hi' hn'
      refine ⟨bs'', f1'.keep (fun j hj => hk j (f1'.high j hj).2 (fun e => f2' (e ▸ hj))), ?_, f3'⟩
      rcases hg3 with e | e
      · rw [e]; exact f2'
      · intro hm; have := (f1'.high _ hm).2; omega
    · intro hm
      have := hF.high _ hm
      rcases hg3 with e | e <;> omega
    · intro hm
      have := (hF.high _ hm).1
      omega
def lenOf : Value → Nat
  | .slice _ n _ => n | _ => 0
theorem Fd.one {A base : Nat} {k : Int} {l : L} {bs : List Nat} {w : World} {v0 v1 v2 v3 : Value} (h : Fd A base k l bs w v0 v1 v2 v3) : ∀ u ∈ [v0, v1, v2, v3], u.oneCell' = true := by
  obtain ⟨P, i1, i2, i3, i4, c1, c2, c3, c4, rfl, rfl, rfl, rfl, hP, hF⟩ := h
  intro u hu; simp at hu; rcases hu with rfl | rfl | rfl | rfl <;> rfl
theorem four_new (w : World) (v0 v1 v2 v3 : Value) (t : TypeId) : ∀ j u, [v0, v1, v2, v3][j]? = some u → (w.alloc (.cells #[v0, v1, v2, v3] t)).cell? ((⟨w.heap.size, 0, none⟩ : Addr).add j) = some u := by
  intro j u hu
  rw [Addr.add_lit, World.cell?_alloc_at _ _ _ _ rfl]
  simpa using hu
set_option maxRecDepth 8000 in
set_option maxHeartbeats 1000000 in
theorem fieldsOf_any {w : World} {A : Nat} {m : Ms} (h : Mg w A m) (h0 : 0 ≤ m.k) (h1 : m.k ≤ 16) :
    Calls Try.prog 25 #[.pointer (some ⟨A, 0, none⟩)] w fun e w' => ∃ G cap xs I, e = .returned (.slice (some ⟨G, 0, none⟩) (Wr.letters m.k).length cap) ∧ FsInv w A I G m (Wr.letters m.k) (Wr.letters m.k).length cap xs w' := by
  obtain ⟨iF, hiF, zF0, zF1, zF2⟩ := info_parts Try.infoF
  have c0 := h.c0
  have hlt := h.lt
  have HN := hide (names_at m.k h0 h1)
  have HA := hide named_any
  have HM := hide h
  generalize hls : Wr.letters m.k = ls at *
  have hlen : ls.length ≤ 5 := by
    subst hls
    exact letters_five _
  have hss := lstr_size ls
  generalize hs : lstr ls = s at *
  go_enter Try.func25, Try.ntmps25
  go_wp2_with fail
  have hidx := HN.out
  go_region_held3 (fun w' => w'.cell? ⟨A, 0, none⟩ = some (.int .i64 m.k)) (first | go_keep | exact ka) (first
    | (go_at_call 38; refine (HA.out _).mono ?_; rintro e w1 ⟨rfl, hb1⟩; have hb1 := below_dr (n := 1) hb1; have ka := (hb1.cell (p := ⟨A, 0, none⟩) hlt).trans c0))
  have hb1s := hb1.size
  obtain ⟨w2, hmk, ho2, hg2⟩ := run_make_own w1 w.heap.size 75 81 iF (.agg #[.nilFunc, .nilFunc, .nilFunc, .nilFunc]) 4 Try.underlying75 hiF zF0 zF1 .i64 .i64 ls.length (by rw [zF2]; omega) (by unfold maxLen; omega) hb1.size
  have START : Hid (FsInv w A w2.heap.size w1.heap.size m ls 0 ls.length [] (w2.alloc (.stringIter s 0))) := by
    have hl2 := own_lt ho2
    have hg2s := hg2.size
    have hbl : Below w.heap.size w w2 := hb1.trans ((⟨hg2.os, hg2.tape, hg2.output, hg2.size, fun j hj => hg2.block j hj (by simp)⟩ : Below w1.heap.size w1 w2).mono hb1s)
    refine ⟨own_keep ho2 fun k e => ?_, by rw [hs]; exact heap_alloc_new w2 _, by omega, by omega, ?_, hbl.alloc (by omega) _, fun i _ hi => absurd hi (by omega)⟩
    · cases e; exact Below.heap_alloc w2 _ _ hl2.2
    · exact HM.out.block ((Below.heap_alloc w2 _ _ (by omega)).trans (hbl.block A hlt))
  clear ho2 hg2 ka hb1
  go_wp2
  go_loopw [4] (fun v wr => ∃ (i G cap : Nat) (xs : List Value), v = .slice (some ⟨G, 0, none⟩) i cap ∧ i ≤ ls.length ∧ Hid (FsInv w A w2.heap.size G m ls i cap xs wr)) (fun v _ => ls.length - lenOf v)
  case atStart => exact ⟨0, _, _, _, rfl, Nat.zero_le _, START.out⟩
  case round =>
    obtain ⟨i, G, cap, xs, rfl, hi, HI⟩ := hrel
    generalize w2.heap.size = I at *
    by_cases hil : i < ls.length
    · have hnx : ∀ ty, (Instr.next (.pointer (some ⟨I, 0, none⟩)) true ty).run Try.prog wr = .ok (.tuple #[.bool true, .int .i64 (i : Int), .int .i32 (chr ls[i])]) (iterSet wr I s (i + 1)) := fun ty => by
        have := next_at HI.out.it (by rw [lstr_size]; exact hil) ty
        rw [lstr_dec ls i hil, hs, chr_nat] at this
        exact this
      have HMQ : Hid (Mg (iterSet wr I s (i + 1)) A m) := by
        have := (HI.out.mid hlt (Below.refl _ _)).2.2.1
        rw [hs] at this
        exact this
      go_wp2_with fail
      refine (fieldOf_any HMQ.out ls[i]).mono ?_
      rintro e w3 ⟨v0, v1, v2, v3, bs, rfl, hb3, hF3⟩
      have HF3 := hide hF3
      have HB3 := hide hb3
      have hb3' : Below (iterSet wr I (lstr ls) (i + 1)).heap.size (iterSet wr I (lstr ls) (i + 1)) w3 := by rw [hs]; exact hb3
      have HB3' := hide hb3'
      have HO3 := hide (HI.out.mid hlt hb3').1
      have hs3 := (HI.out.mid hlt hb3').2.2.2.1.size
      clear hF3 hb3 hb3'
      go_wp2_with (first
        | (at_builtin; refine wpList_append_lies _ rfl _ _ 75 rfl w.heap.size 81 iF (.agg #[.nilFunc, .nilFunc, .nilFunc, .nilFunc]) 4 32 Try.underlying75 hiF zF0 zF1 zF2 rfl (by decide) (.slice (some ⟨G, 0, none⟩) i cap) i xs rfl (HO3.out.alloc _) ⟨w3.heap.size, 0, none⟩ 1 1 [v0, v1, v2, v3] rfl rfl (four_new _ _ _ _ _ _) HF3.out.one (by decide) (by unfold maxLen; omega) (by omega) (by rw [World.size_alloc]; omega) _ rfl ?_; intro g3 cap3 w4 hown4 hgrow4 hat4 hlt4; have HS : Hid (FsInv w A I g3 m ls (i + 1) cap3 (xs ++ [v0, v1, v2, v3]) w4) := (HI.out.step hlt HB3'.out hil (by rw [hs]; exact HF3.out) hown4 hgrow4 hat4); clear hown4 hgrow4 hat4 hlt4)
        | go_in)
      exact ⟨⟨i + 1, g3, cap3, _, rfl, by omega, HS.out⟩, by simp [lenOf]; omega⟩
    · have hnx : ∀ ty, (Instr.next (.pointer (some ⟨I, 0, none⟩)) true ty).run Try.prog wr = .ok (.tuple #[.bool false]) wr := fun ty => next_end HI.out.it (by rw [lstr_size]; exact hil) ty
      obtain rfl : i = ls.length := by omega
      go_wp2
      go_ret
      exact ⟨G, cap, xs, I, rfl, HI.out⟩
end Go.Proofs.Ytapcmmljdpallaa
