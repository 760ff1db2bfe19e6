import Derived.Test.YtmkfhcdmcncgkaaSxE
namespace Go.Proofs.Ytmkfhcdmcncgkaa
open Go.RowKit Go.Shelf

theorem del_lt {n : Int} : ∀ {L : List Hx}, has n L = true → (del n L).length < L.length
  | [], h => by simp [has] at h
  | x :: l, h => by
    unfold del
    by_cases e : x.no = n
    · have : (x.no != n) = false := by simp [e]
      rw [List.filter_cons_of_neg (by simp [this]), List.length_cons]
      exact Nat.lt_succ_of_le (List.length_filter_le _ _)
    · have h2 : has n l = true := by
        obtain ⟨y, hy, e2⟩ := has_iff.1 h
        rcases List.mem_cons.1 hy with rfl | hy
        · exact absurd e2 e
        · exact has_iff.2 ⟨y, hy, e2⟩
      rw [List.filter_cons_of_pos (by simp [e]), List.length_cons, List.length_cons]
      exact Nat.succ_lt_succ (del_lt h2)
/-- what is handed on from the next one on; the next one then; what is held then -/
def hnd (n : Int) (L : List Hx) : List ByteArray × Int × List Hx :=
  if h : has n L = true then ((fnd n L).tx :: (hnd (n + 1) (del n L)).1, (hnd (n + 1) (del n L)).2) else ([], n, L)
  termination_by L.length
  decreasing_by all_goals exact del_lt h
theorem hnd_no {n : Int} {L : List Hx} (h : has n L = false) : hnd n L = ([], n, L) := by
  rw [hnd, dif_neg (by rw [h]; decide)]
theorem hnd_yes {n : Int} {L : List Hx} (h : has n L = true) : hnd n L = ((fnd n L).tx :: (hnd (n + 1) (del n L)).1, (hnd (n + 1) (del n L)).2) := by
  rw [hnd, dif_pos h]

/-- a stitcher in memory -/
structure Wb (w : World) (b m : Nat) (win n : Int) (L : List Hx) : Prop where
  blk : w.heap[b]? = some (.cells #[.int .i64 win, .int .i64 n, .map (some m)] 52 (0, 0))
  map : Lm w m L
section
variable {w w' : World} {b m : Nat} {win n n' : Int} {L L' : List Hx}
theorem Wb.lt (h : Wb w b m win n L) : b < w.heap.size := lt_of_block h.blk
theorem Wb.keep (h : Wb w b m win n L) (e1 : w'.heap[b]? = w.heap[b]?) (e2 : w'.heap[m]? = w.heap[m]?) : Wb w' b m win n L := ⟨e1.trans h.blk, h.map.keep e2⟩
theorem Wb.below (h : Wb w b m win n L) (hb : Below w.heap.size w w') : Wb w' b m win n L := h.keep (hb.block _ h.lt) (hb.block _ h.map.lt)
theorem Wb.c0 (h : Wb w b m win n L) : w.cell? ⟨b, 0, none⟩ = some (.int .i64 win) := by simp [World.cell?, h.blk]
theorem Wb.c1 (h : Wb w b m win n L) : w.cell? ⟨b, 1, none⟩ = some (.int .i64 n) := by simp [World.cell?, h.blk]
theorem Wb.c2 (h : Wb w b m win n L) : w.cell? ⟨b, 2, none⟩ = some (.map (some m)) := by simp [World.cell?, h.blk]
theorem Wb.z (h : Wb w b m win n L) (k : Nat) : w.frozen? ⟨b, k, none⟩ = false := by simp [World.frozen?, h.blk]
theorem Wb.ne (h : Wb w b m win n L) : b ≠ m := fun e => by
  obtain ⟨es, c, h1⟩ := h.map.block
  have h2 := h.blk
  rw [e, h1] at h2
  cases h2
theorem Wb.turn (h : Wb w b m win n L) (hm : Lm w' m L') (hg : w.grownBy w' (some m)) : Wb w' b m win n L' :=
  ⟨(hg.block b h.lt (fun e => h.ne (by cases e; rfl))).trans h.blk, hm⟩
/-- its number turns -/
theorem Wb.set (h : Wb w b m win n L) (k : Int) : Wb (w.setCell ⟨b, 1, none⟩ (.int .i64 k)) b m win k L := by
  refine ⟨?_, h.map.keep (by simp [World.setCell, Array.getElem?_modify, h.ne])⟩
  have := h.blk
  simp only [World.setCell, Array.getElem?_modify]
  rw [this]
  simp
end
/-- what a stitcher's call turns -/
structure Mv (b m : Nat) (w w' : World) : Prop where
  os : w'.os = w.os
  tape : w'.tape = w.tape
  output : w'.output = w.output
  size : w.heap.size ≤ w'.heap.size
  block : ∀ k, k < w.heap.size → k ≠ b → k ≠ m → w'.heap[k]? = w.heap[k]?
theorem Mv.refl (b m : Nat) (w : World) : Mv b m w w := ⟨rfl, rfl, rfl, Nat.le_refl _, fun _ _ _ _ => rfl⟩
theorem Mv.trans {b m : Nat} {x y z : World} (h : Mv b m x y) (k : Mv b m y z) : Mv b m x z :=
  ⟨k.os.trans h.os, k.tape.trans h.tape, k.output.trans h.output, Nat.le_trans h.size k.size, fun i hi h1 h2 => (k.block i (Nat.lt_of_lt_of_le hi h.size) h1 h2).trans (h.block i hi h1 h2)⟩
theorem Mv.of_below {b m : Nat} {w w' : World} (h : Below w.heap.size w w') : Mv b m w w' := ⟨h.os, h.tape, h.output, h.size, fun k hk _ _ => h.block k hk⟩
theorem Mv.of_grown {b m : Nat} {w w' : World} (h : w.grownBy w' (some m)) : Mv b m w w' := ⟨h.os, h.tape, h.output, h.size, fun k hk _ hm => h.block k hk (fun e => hm (by cases e; rfl))⟩
theorem Mv.of_set {b m : Nat} (w : World) (o : Nat) (v : Value) : Mv b m w (w.setCell ⟨b, o, none⟩ v) :=
  ⟨rfl, rfl, rfl, by simp [World.setCell], fun k _ hb _ => by simp [World.setCell, Array.getElem?_modify, Ne.symm hb]⟩
theorem Mv.new {b m : Nat} {x y z : World} {row : Option Nat} (h : Mv b m x y) (hg : y.grownBy z row) (hr : ∀ k, row = some k → x.heap.size ≤ k) : Mv b m x z :=
  ⟨hg.os.trans h.os, hg.tape.trans h.tape, hg.output.trans h.output, Nat.le_trans h.size hg.size, fun k hk h1 h2 => (hg.block k (Nat.lt_of_lt_of_le hk h.size) (fun e => by have := hr k e.symm; omega)).trans (h.block k hk h1 h2)⟩
/-- how many a map has -/
def msize (w : World) (m : Nat) : Nat := match w.heap[m]? with
  | some (.map es _) => es.size
  | _ => 0
theorem Lm.msize {w : World} {m : Nat} {L : List Hx} (h : Lm w m L) : msize w m = L.length := by
  obtain ⟨_, es, c, h1, _, hp⟩ := h
  have := hp.length_eq
  simp only [Go.Proofs.Ytmkfhcdmcncgkaa.msize, h1]
  simpa using this
theorem Mv.drew {b m : Nat} {w w' : World} (h : Mv b m w w') (k : Nat) : Mv b m w (w'.drewN k) := ⟨h.os, h.tape, h.output, h.size, h.block⟩

theorem Try.infoS : (Try.prog.info? 9).map (fun i => (i.zero, i.size, i.bytes)) = some (some (.string ByteArray.empty), 1, 16) := by kernel_rfl
theorem Try.infoN : (Try.prog.info? 3).map (fun i => (i.zero, i.size, i.bytes)) = some (some (.int .i64 0), 1, 8) := by kernel_rfl
theorem info_parts {t : TypeId} {z : Option Value} {s b : Nat} (h : (Try.prog.info? t).map (fun i => (i.zero, i.size, i.bytes)) = some (z, s, b)) : ∃ i, Try.prog.info? t = some i ∧ i.zero = z ∧ i.size = s ∧ i.bytes = b := by
  cases hi : Try.prog.info? t with
  | none => rw [hi] at h; cases h
  | some i =>
    rw [hi] at h
    simp only [Option.map_some, Option.some.injEq, Prod.mk.injEq] at h
    exact ⟨i, rfl, h.1, h.2.1, h.2.2⟩

/-- New -/
def nok (win have_ : Int) : Bool := decide (1 ≤ win ∧ win ≤ 8 ∧ 0 ≤ have_ ∧ have_ ≤ 32)
set_option maxHeartbeats 1000000 in
theorem new_no {a c : Int} (h : nok a c = false) (w : World) : Calls Try.prog 6 #[.int .i64 a, .int .i64 c] w fun e w' => e = .returned (.tuple #[.pointer none, .int .i64 150]) ∧ w' = w := by
  have h' : ¬ (1 ≤ a ∧ a ≤ 8 ∧ 0 ≤ c ∧ c ≤ 32) := by simpa [nok] using h
  clear h
  by_cases h1 : a < 1
  · have b1 : decide (a < 1) = true := by simpa using h1
    clear h1 h'
    go_enter Try.func6, Try.ntmps6
    go_wp2
    go_ret2
    exact ⟨rfl, rfl⟩
  have b1 : decide (a < 1) = false := by simpa using h1
  by_cases h2 : 8 < a
  · have b2 : decide (8 < a) = true := by simpa using h2
    clear h1 h' h2
    go_enter Try.func6, Try.ntmps6
    go_wp2
    go_ret2
    exact ⟨rfl, rfl⟩
  have b2 : decide (8 < a) = false := by simpa using h2
  by_cases h3 : c < 0
  · have b3 : decide (c < 0) = true := by simpa using h3
    clear h1 h' h2 h3
    go_enter Try.func6, Try.ntmps6
    go_wp2
    go_ret2
    exact ⟨rfl, rfl⟩
  have b3 : decide (c < 0) = false := by simpa using h3
  have b4 : decide (32 < c) = true := by simp; omega
  clear h1 h' h2 h3
  go_enter Try.func6, Try.ntmps6
  go_wp2
  go_ret2
  exact ⟨rfl, rfl⟩
set_option maxHeartbeats 1000000 in
theorem new_yes {a c : Int} (h : nok a c = true) (w : World) : Calls Try.prog 6 #[.int .i64 a, .int .i64 c] w fun e w' => e = .returned (.tuple #[.pointer (some ⟨w.heap.size + 1, 0, none⟩), .int .i64 0]) ∧ Wb w' (w.heap.size + 1) w.heap.size a c [] ∧ Below w.heap.size w w' := by
  have h' : 1 ≤ a ∧ a ≤ 8 ∧ 0 ≤ c ∧ c ≤ 32 := by simpa [nok] using h
  have b1 : decide (a < 1) = false := by simp; omega
  have b2 : decide (8 < a) = false := by simp; omega
  have b3 : decide (c < 0) = false := by simp; omega
  have b4 : decide (32 < c) = false := by simp; omega
  have hmm := @run_makeMap Try.prog
  clear h h'
  go_enter Try.func6, Try.ntmps6
  go_wp2
  go_ret2
  refine ⟨rfl, ⟨?_, (lm_new w).below (below_alloc _ _)⟩, (below_alloc w _).alloc (by simp) _⟩
  have := heap_alloc_new (w.alloc (.map #[] 0)) (.cells #[.int .i64 a, .int .i64 c, .map (some w.heap.size)] 52)
  rw [World.size_alloc] at this
  exact this
theorem next_any {w : World} {b m : Nat} {win n : Int} {L : List Hx} (h : Wb w b m win n L) : Calls Try.prog 14 #[.pointer (some ⟨b, 0, none⟩)] w fun e w' => e = .returned (.int .i64 n) ∧ w' = w := by
  have c1 := h.c1
  clear h
  go_enter Try.func14, Try.ntmps14
  go_wp2
  go_ret
  exact ⟨rfl, rfl⟩
set_option maxHeartbeats 1000000 in
theorem held_any {w : World} {b m : Nat} {win n : Int} {L : List Hx} (h : Wb w b m win n L) (hl : L.length ≤ 1000) : Calls Try.prog 13 #[.pointer (some ⟨b, 0, none⟩)] w fun e w' => ∃ v, e = .returned v ∧ w'.ownsRow w.heap.size 3 1 v L.length ((nos L).map encZ) ∧ Below w.heap.size w w' := by
  have c2 := h.c2
  have HS := hide (sorted_any (w := w.alloc (.cells #[.map (some m)] 50)) (Bs := w.heap.size) (m := m) (L := L) (by simp) (by simp) (h.map.below (below_alloc w _)) hl)
  clear h hl
  go_enter Try.func13, Try.ntmps13
  go_wp2_with fail
  refine (keys_any m w).mono ?_
  rintro e w1 ⟨rfl, rfl⟩
  go_wp2_with fail
  refine HS.out.mono ?_
  rintro e w2 ⟨v, rfl, hrow, hb⟩
  have HR := hide hrow
  have HB := hide hb
  clear HS hrow hb
  go_wp2_with fail
  go_ret
  exact ⟨v, rfl, ownsRow_base_a HR.out (by simp), below_of (below_alloc w _) HB.out⟩
set_option maxHeartbeats 1000000 in
theorem clone_any {w : World} {b m : Nat} {win n : Int} {L : List Hx} (h : Wb w b m win n L) :
    Calls Try.prog 10 #[.pointer (some ⟨b, 0, none⟩)] w fun e w' => e = .returned (.pointer (some ⟨w.heap.size + 1, 0, none⟩)) ∧ Wb w' (w.heap.size + 1) w.heap.size win n L ∧ Below w.heap.size w w' := by
  have hlt := h.lt
  have c0 := h.c0
  have c1 := h.c1
  have c2 := h.c2
  obtain ⟨hR, es, clock, hb, hst, hp⟩ := h.map
  have hcl : Calls Try.prog 16 #[.map (some m)] w.drew fun e w' => e = .returned (.map (some w.heap.size)) ∧ w' = w.drew.alloc (.map es clock) := AnyW.maps_Clone Try.cloneL m es clock w.drew hb
  have HL : Hid (Lm (w.alloc (.map es clock)) w.heap.size L) := ⟨hR, es, clock, (MapKept.heap_alloc w _).1, hst, hp⟩
  clear h hR hb hst hp
  go_enter Try.func10, Try.ntmps10
  go_wp2
  go_region_with (go_at_call 16; refine hcl.mono ?_; rintro e w' ⟨rfl, rfl⟩)
  all_goals
    (try simp only [List.getElem_toArray])
    (try simp only [List.getElem_cons_succ])
    (try simp only [List.getElem_cons_zero])
    go_frame
    go_wp2
    go_ret
    refine ⟨rfl, ⟨?_, ?_⟩, ?_⟩
    · have := heap_alloc_new (w.alloc (.map es clock)) (.cells #[.int .i64 win, .int .i64 n, .map (some w.heap.size)] 52)
      rw [World.size_alloc] at this
      exact this
    · exact HL.out.below (below_alloc _ _).drew
    · exact ((below_alloc w (.map es clock)).alloc (by simp) _).drew
end Go.Proofs.Ytmkfhcdmcncgkaa
