import Derived.Test.YtkchddphmkgilaaQuRb
namespace Go.Proofs.Ytkchddphmkgilaa
open Go.RowKit

/-- only block b is turned -/
structure On (b : Nat) (w w' : World) : Prop where
  os : w'.os = w.os
  tape : w'.tape = w.tape
  output : w'.output = w.output
  size : w.heap.size ≤ w'.heap.size
  block : ∀ k, k < w.heap.size → k ≠ b → w'.heap[k]? = w.heap[k]?
theorem On.of_below {b : Nat} {w w' : World} (h : Below w.heap.size w w') : On b w w' := ⟨h.os, h.tape, h.output, h.size, fun k hk _ => h.block k hk⟩
theorem On.trans {x : Nat} {a b c : World} (h : On x a b) (k : On x b c) : On x a c := ⟨k.os.trans h.os, k.tape.trans h.tape, k.output.trans h.output, Nat.le_trans h.size k.size, fun i hi hn => (k.block i (Nat.lt_of_lt_of_le hi h.size) hn).trans (h.block i hi hn)⟩
theorem On.below {b : Nat} {w w' : World} (h : On b w w') {B : Nat} (h1 : B ≤ b) (h2 : B ≤ w.heap.size) : Below B w w' := ⟨h.os, h.tape, h.output, h.size, fun k hk => h.block k (by omega) (by omega)⟩
/-- the document's queue: its rows are never written into -/
structure Xm (w : World) (x : Nat) (ad : Option Addr) (ab cap : Nat) (m : Int) (L : List Rr) : Prop where
  blk : w.heap[x]? = some (.cells #[.int .i64 m, .slice ad L.length cap] 50 (0, 0))
  rs : Rs w ad ab 0 L
  ty : 0 < L.length → ∃ cs, w.heap[ab]? = some (.cells cs 30 (0, 0))
section
variable {w w' : World} {x : Nat} {ad : Option Addr} {ab cap : Nat} {m : Int} {L : List Rr}
theorem Xm.lt (h : Xm w x ad ab cap m L) : x < w.heap.size := lt_of_block h.blk
theorem Xm.c0 (h : Xm w x ad ab cap m L) : w.cell? ⟨x, 0, none⟩ = some (.int .i64 m) := by have := h.blk; simp [World.cell?, this]
theorem Xm.c1 (h : Xm w x ad ab cap m L) : w.cell? ⟨x, 1, none⟩ = some (.slice ad L.length cap) := by have := h.blk; simp [World.cell?, this]
theorem Xm.z (h : Xm w x ad ab cap m L) (k : Nat) : w.frozen? ⟨x, k, none⟩ = false := by have := h.blk; simp [World.frozen?, this]
theorem Xm.keep (h : Xm w x ad ab cap m L) (hx : w'.heap[x]? = w.heap[x]?) (hb : 0 < L.length → w'.heap[ab]? = w.heap[ab]?) : Xm w' x ad ab cap m L :=
  ⟨hx.trans h.blk, h.rs.keep hb, fun h0 => by obtain ⟨cs, hc⟩ := h.ty h0; exact ⟨cs, (hb h0).trans hc⟩⟩
theorem Xm.below (h : Xm w x ad ab cap m L) (hb : Below w.heap.size w w') : Xm w' x ad ab cap m L := h.keep (hb.block _ h.lt) fun h0 => hb.block _ (h.rs.lt h0)
theorem Xm.ne (h : Xm w x ad ab cap m L) (h0 : 0 < L.length) : ab ≠ x := by
  obtain ⟨cs, hc⟩ := h.ty h0
  rintro rfl
  have := h.blk.symm.trans hc
  simp at this
/-- other rows are laid -/
theorem Xm.put {L' : List Rr} {ab' cap' : Nat} (h : w.heap[x]? = some (.cells #[.int .i64 m, .slice ad L.length cap] 50 (0, 0))) (ho : w.ownsRow 0 30 8 (.slice (some ⟨ab', 0, none⟩) L'.length cap') L'.length (rcs L')) (hn : ab' ≠ x) :
    Xm (w.setCell ⟨x, 1, none⟩ (.slice (some ⟨ab', 0, none⟩) L'.length cap')) x (some ⟨ab', 0, none⟩) ab' cap' m L' := by
  have hk := Below.heap_setCell w ⟨x, 1, none⟩ (.slice (some ⟨ab', 0, none⟩) L'.length cap') ab' hn
  refine ⟨heap_set_self w x 1 _ _ _ _ h, (Rs.own0 ho).keep fun _ => hk, fun _ => ?_⟩
  rcases ho.2 with ⟨h1, _⟩ | ⟨g', c', cur, h1, _, hg, _⟩
  · cases h1
  · injection h1 with h1; injection h1 with h1; injection h1 with h1; subst h1; exact ⟨cur, hk.trans hg⟩
theorem on_put (w : World) (x : Nat) (v : Value) : On x w (w.setCell ⟨x, 1, none⟩ v) := ⟨rfl, rfl, rfl, by rw [setCell_size]; exact Nat.le_refl _, fun k _ hn => Below.heap_setCell w ⟨x, 1, none⟩ v k hn⟩
/-- what the document's New leaves -/
inductive RN (y : Int) (w : World) (e : Ending) (w' : World) : Prop
  | arg : ¬ (1 ≤ y ∧ y ≤ 8) → e = .returned (.tuple #[.pointer none, .int .i64 1]) → w' = w → RN y w e w'
  | ok : 1 ≤ y → y ≤ 8 → e = .returned (.tuple #[.pointer (some ⟨w.heap.size, 0, none⟩), .int .i64 0]) → Xm w' w.heap.size none 0 0 y [] → Below w.heap.size w w' → RN y w e w'
set_option maxHeartbeats 1000000 in
theorem rnew_any (w : World) (y : Int) : Calls Try.prog 11 #[.int .i64 y] w (RN y w) := by
  by_cases h1 : y < 1
  · go_enter Try.func11, Try.ntmps11
    go_wp2
    go_ret2
    exact .arg (by omega) rfl rfl
  by_cases h2 : 8 < y
  · go_enter Try.func11, Try.ntmps11
    go_wp2
    go_ret2
    exact .arg (by omega) rfl rfl
  go_enter Try.func11, Try.ntmps11
  go_wp2
  go_ret2
  exact .ok (by omega) (by omega) rfl ⟨heap_alloc_new w _, ⟨fun h => absurd h (by simp), fun i hi => absurd hi (by simp)⟩, fun h => absurd h (by simp)⟩ (below_alloc w _)
set_option maxHeartbeats 1000000 in
theorem rcopy_any (h : Xm w x ad ab cap m L) : Calls Try.prog 16 #[.pointer (some ⟨x, 0, none⟩)] w fun e w' => e = .returned (.pointer (some ⟨w.heap.size, 0, none⟩)) ∧ Xm w' w.heap.size ad ab cap m L ∧ Below w.heap.size w w' := by
  have c0 := h.c0
  have c1 := h.c1
  have HX := hide h
  clear h
  go_enter Try.func16, Try.ntmps16
  go_wp2
  go_ret
  exact ⟨rfl, ⟨heap_alloc_new w _, HX.out.rs.below (below_alloc w _), fun h0 => by obtain ⟨cs, hc⟩ := HX.out.ty h0; exact ⟨cs, (Below.heap_alloc _ _ _ (HX.out.rs.lt h0)).trans hc⟩⟩, below_alloc w _⟩
set_option maxHeartbeats 1000000 in
theorem rhead_any (h : Xm w x ad ab cap m L) (hk : Ok m L) : Calls Try.prog 19 #[.pointer (some ⟨x, 0, none⟩)] w fun e w' => e = .returned (.int .i64 (hd L)) ∧ w' = w := by
  have c1 := h.c1
  have hlt := h.lt
  have hl := hk.len
  have HR := hide h.rs
  have HH := hide hk.toROk.hd_or
  clear h
  go_enter Try.func19, Try.ntmps19
  go_wp2_with fail
  go_loopw [3] (fun s wr => ∃ (i : Nat), i ≤ L.length ∧ s = .int .i64 (i : Int) ∧ wr = w ∧ Hid (∀ k (_ : k < i) (hk : k < L.length), (L[k]).st ≠ 1)) (fun s _ => L.length - (intOf s).toNat)
  case atStart => exact ⟨0, Nat.zero_le _, rfl, rfl, hide (fun k hk => absurd hk (by omega))⟩
  case round =>
    obtain ⟨i, hi, rfl, rfl, HP⟩ := hrel
    by_cases hii : i < L.length
    · have hik : (i : Int) < (L.length : Int) := by omega
      have hat := HR.out.at_ (by omega)
      subst hat
      obtain ⟨k0, k1, _⟩ := HR.out.eight0 hii
      by_cases h1 : (L[i]).st = 1
      · have HE : Hid (hd L = (i : Int) + 1) := by
          rcases HH.out with ⟨_, b⟩ | ⟨j, hj, a, b, c⟩
          · exact absurd h1 (b i hii)
          · rcases Nat.lt_trichotomy i j with e | e | e
            · exact absurd h1 (c i e hii)
            · rw [e]; exact a
            · exact absurd b (HP.out j e hj)
        rw [h1] at k1
        clear h1
        go_wp2
        go_ret
        exact ⟨by rw [HE.out]; rfl, rfl⟩
      · have b1 : ((L[i]).st == 1) = false := by simpa using h1
        have HP2 : Hid (∀ k (_ : k < i + 1) (hk : k < L.length), (L[k]).st ≠ 1) := hide fun k hk hkl => by
          by_cases e : k = i
          · subst e; exact h1
          · exact HP.out k (by omega) hkl
        clear h1 HP
        generalize (L[i]).st = t at *
        go_wp2_with fail
        go_roundw
        case rel => exact ⟨i + 1, by omega, by go_num, by first | rfl | trivial, HP2⟩
        case measure => simp only [intOf]; omega
    · have hik : ¬ (i : Int) < (L.length : Int) := by omega
      have HE : Hid (hd L = 0) := by
        rcases HH.out with ⟨a, _⟩ | ⟨j, hj, a, b, c⟩
        · exact a
        · exact absurd b (HP.out j (by omega) hj)
      go_wp2
      go_ret
      exact ⟨by rw [HE.out]; rfl, rfl⟩
set_option maxHeartbeats 1000000 in
theorem rheld_any (h : Xm w x ad ab cap m L) (hk : Ok m L) (g : Int) : Calls Try.prog 59 #[.pointer (some ⟨x, 0, none⟩), .int .i64 g] w fun e w' => e = .returned (.int .i64 (exJ L g)) ∧ w' = w := by
  have c1 := h.c1
  have hlt := h.lt
  have hl := hk.len
  have HR := hide h.rs
  have HK := hide hk
  clear h hk
  go_enter Try.func59, Try.ntmps59
  go_wp2_with fail
  go_loopw [5] (fun s wr => ∃ (i : Nat), i ≤ L.length ∧ s = .int .i64 (i : Int) ∧ wr = w ∧ Hid (∀ k (_ : k < i) (hk : k < L.length), ¬ ((L[k]).st = 2 ∧ (L[k]).bdg = g))) (fun s _ => L.length - (intOf s).toNat)
  case atStart => exact ⟨0, Nat.zero_le _, rfl, rfl, hide (fun k hk => absurd hk (by omega))⟩
  case round =>
    obtain ⟨i, hi, rfl, rfl, HP⟩ := hrel
    by_cases hii : i < L.length
    · have hik : (i : Int) < (L.length : Int) := by omega
      have hat := HR.out.at_ (by omega)
      subst hat
      obtain ⟨k0, k1, k2, k3, _⟩ := HR.out.eight0 hii
      by_cases h1 : (L[i]).st = 2 ∧ (L[i]).bdg = g
      · have HE : Hid (exJ L g = (i : Int) + 1) := by
          show exJ L g = _
          unfold exJ
          cases hx : hix g L with
          | none => exact absurd h1 (hix_none hx i hii)
          | some j =>
            obtain ⟨hj, a, b⟩ := hix_some hx
            have hp := held_pos HK.out.toROk i hii h1.1
            have := HK.out.uni i j hii hj (by omega) (by rw [h1.2, b])
            subst this
            rfl
        rw [h1.1] at k1
        rw [h1.2] at k3
        have bg : (g == g) = true := by simp
        clear h1
        go_wp2
        go_ret
        exact ⟨by rw [HE.out]; rfl, rfl⟩
      · have HP2 : Hid (∀ k (_ : k < i + 1) (hk : k < L.length), ¬ ((L[k]).st = 2 ∧ (L[k]).bdg = g)) := hide fun k hk hkl => by
          by_cases e : k = i
          · subst e; exact h1
          · exact HP.out k (by omega) hkl
        clear HP
        by_cases h2 : (L[i]).st = 2
        · have b2 : ((L[i]).bdg == g) = false := by simpa using fun e => h1 ⟨h2, e⟩
          rw [h2] at k1
          clear h1 h2
          generalize (L[i]).bdg = t at *
          go_wp2_with fail
          go_roundw
          case rel => exact ⟨i + 1, by omega, by go_num, by first | rfl | trivial, HP2⟩
          case measure => simp only [intOf]; omega
        · have b2 : ((L[i]).st == 2) = false := by simpa using h2
          clear h1 h2
          generalize (L[i]).st = t at *
          go_wp2_with fail
          go_roundw
          case rel => exact ⟨i + 1, by omega, by go_num, by first | rfl | trivial, HP2⟩
          case measure => simp only [intOf]; omega
    · have hik : ¬ (i : Int) < (L.length : Int) := by omega
      have HE : Hid (exJ L g = 0) := by
        show exJ L g = _
        unfold exJ
        cases hx : hix g L with
        | none => rfl
        | some j => obtain ⟨hj, a, b⟩ := hix_some hx; exact absurd ⟨a, b⟩ (HP.out j (by omega) hj)
      go_wp2
      go_ret
      exact ⟨by rw [HE.out]; rfl, rfl⟩
end
end Go.Proofs.Ytkchddphmkgilaa
