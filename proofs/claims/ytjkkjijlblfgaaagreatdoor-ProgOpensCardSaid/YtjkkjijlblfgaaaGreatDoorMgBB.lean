import Derived.Test.YtjkkjijlblfgaaaGreatDoorMgAY
import Derived.Deep.QuietTactic
import Derived.Test.YtjkkjijlblfgaaaGreatDoorMgBA

section
namespace Go.Proofs.YtjkkjijlblfgaaaGreatDoor
open Go.RowKit Go.Shelf

theorem un_of (v : Int) (h : -9223372036854775808 ≤ v ∧ v ≤ 9223372036854775807) : (0 ≤ v → (Pg.un v : Int) = v) ∧ (v < 0 → 9223372036854775808 ≤ Pg.un v) := by
  unfold Pg.un
  constructor
  · intro h0; omega
  · intro h0; omega
theorem named_reg (v : Int) (h : -9223372036854775808 ≤ v ∧ v ≤ 9223372036854775807) (l many : Nat) (h1 : l ≠ 75) (h2 : l ≠ 78) : Pg.namedE (Pg.un v) l many = if v < 0 ∨ 7 < v then 52 else 0 := by
  have := un_of v h
  unfold Pg.namedE
  rw [if_neg h1, if_neg h2]
  by_cases h0 : v < 0
  · rw [if_pos (by have := this.2 h0; omega), if_pos (.inl h0)]
  · have h3 := this.1 (by omega)
    by_cases h7 : 7 < v
    · rw [if_pos (by omega), if_pos (.inr h7)]
    · rw [if_neg (by omega), if_neg (by omega)]
theorem unnamed_reg (v : Int) (h : -9223372036854775808 ≤ v ∧ v ≤ 9223372036854775807) : Pg.unnamedE (Pg.un v) = if v ≠ 0 then 54 else 0 := by
  have := un_of v h
  unfold Pg.unnamedE
  by_cases h0 : v = 0
  · subst h0; rfl
  · rw [if_pos h0]
    refine if_pos ?_
    by_cases h1 : v < 0
    · have := this.2 h1; omega
    · have := this.1 (by omega); omega
theorem named_n (v : Int) (h : -9223372036854775808 ≤ v ∧ v ≤ 9223372036854775807) (many : Nat) (hm : many ≤ 64) : Pg.namedE (Pg.un v) 78 many = if v < 0 ∨ (many : Int) < v then 53 else 0 := by
  have := un_of v h
  unfold Pg.namedE
  rw [if_neg (by decide), if_pos rfl]
  by_cases h0 : v < 0
  · rw [if_pos (by have := this.2 h0; omega), if_pos (.inl h0)]
  · have h3 := this.1 (by omega)
    by_cases h7 : (many : Int) < v
    · rw [if_pos (by omega), if_pos (.inr h7)]
    · rw [if_neg (by omega), if_neg (by omega)]
theorem field_reg (fs : ByteArray) (x : In) (many l i r : Nat) (v : Int) (hg : Pg.get x l = Pg.un v) (hv : -9223372036854775808 ≤ v ∧ v ≤ 9223372036854775807) (h1 : l ≠ 75) (h2 : l ≠ 78) (hh : Pg.has fs l = decide (i < r)) : Pg.fieldE fs x many l = Pg.regE r i v := by
  unfold Pg.fieldE Pg.regE
  rw [hg, hh]
  by_cases hr : r ≤ i
  · rw [decide_eq_false (by omega), if_pos hr]
    exact unnamed_reg v hv
  · rw [decide_eq_true (by omega), if_neg hr]
    exact named_reg v hv l many h1 h2
theorem insE_of (fs : ByteArray) (x : In) (hx : x.Fits) (many : Nat) (hm : many ≤ 64) (r : Nat) (nb kb : Bool) (hA : Pg.has fs 65 = decide (0 < r)) (hB : Pg.has fs 66 = decide (1 < r)) (hC : Pg.has fs 67 = decide (2 < r)) (hN : Pg.has fs 78 = nb) (hK : Pg.has fs 75 = kb) :
    Pg.firstE fs x many [65, 66, 67, 78, 75] = Pg.wrongP (r, nb, kb) x many := by
  have eA := field_reg fs x many 65 0 r x.a rfl hx.a (by decide) (by decide) hA
  have eB := field_reg fs x many 66 1 r x.b rfl hx.b (by decide) (by decide) hB
  have eC := field_reg fs x many 67 2 r x.c rfl hx.c (by decide) (by decide) hC
  have eN : Pg.fieldE fs x many 78 = Pg.nE nb x.n many := by
    unfold Pg.fieldE Pg.nE
    rw [hN, show Pg.get x 78 = Pg.un x.n from rfl]
    cases nb with
    | true => exact named_n x.n hx.n many hm
    | false => exact unnamed_reg x.n hx.n
  have eK : Pg.fieldE fs x many 75 = Pg.kE kb x.k := by
    unfold Pg.fieldE Pg.kE
    rw [hK, show Pg.get x 75 = x.k from rfl]
    cases kb <;> rfl
  have hF : Pg.firstE fs x many [65, 66, 67, 78, 75] = if Pg.fieldE fs x many 65 ≠ 0 then Pg.fieldE fs x many 65 else if Pg.fieldE fs x many 66 ≠ 0 then Pg.fieldE fs x many 66 else if Pg.fieldE fs x many 67 ≠ 0 then Pg.fieldE fs x many 67 else if Pg.fieldE fs x many 78 ≠ 0 then Pg.fieldE fs x many 78 else if Pg.fieldE fs x many 75 ≠ 0 then Pg.fieldE fs x many 75 else 0 := rfl
  have hG : Pg.regsE r x [0, 1, 2] = if Pg.regE r 0 x.a ≠ 0 then Pg.regE r 0 x.a else if Pg.regE r 1 x.b ≠ 0 then Pg.regE r 1 x.b else if Pg.regE r 2 x.c ≠ 0 then Pg.regE r 2 x.c else 0 := rfl
  unfold Pg.wrongP
  rw [hF, hG, eA, eB, eC, eN, eK]
  generalize Pg.regE r 0 x.a = a
  generalize Pg.regE r 1 x.b = b
  generalize Pg.regE r 2 x.c = c
  generalize Pg.kE kb x.k = k
  generalize Pg.nE nb x.n many = n
  by_cases ha : a = 0
  · by_cases hb : b = 0
    · by_cases hc : c = 0
      · by_cases hn : n = 0
        · by_cases hk : k = 0 <;> simp [ha, hb, hc, hn, hk]
        · simp [ha, hb, hc, hn]
      · simp [ha, hb, hc]
    · simp [ha, hb]
  · simp [ha]
theorem shape_none (op : Int) (h : ¬ (1 ≤ op ∧ op ≤ 24)) : (Pg.shape op).2 = false := by
  unfold Pg.shape Pg.find
  have : Pg.tbl.findIdx? (fun s => s.op == op) = none := by
    rw [List.findIdx?_eq_none_iff]
    intro s hs
    have : ∀ s ∈ Pg.tbl, 1 ≤ s.op ∧ s.op ≤ 24 := by
      intro s hs
      have h1 : Pg.tbl.all (fun s => decide (1 ≤ s.op ∧ s.op ≤ 24)) = true := by decide
      simpa using List.all_eq_true.1 h1 s hs
    have := this s hs
    rw [beq_eq_false_iff_ne]
    omega
  rw [this]
theorem insE_ref (x : In) (hx : x.Fits) (many : Nat) (hm : many ≤ 64) : Pg.insE x many = if (Pg.wordP x.op).toList = [] then 51 else Pg.wrongP (Pg.hasP x.op) x many := by
  unfold Pg.insE
  by_cases h : 1 ≤ x.op ∧ x.op ≤ 24
  · have hc : ∃ n : Fin 24, x.op = ((n.val + 1 : Nat) : Int) := ⟨⟨x.op.toNat - 1, by omega⟩, by show x.op = ((x.op.toNat - 1 + 1 : Nat) : Int); omega⟩
    obtain ⟨n, hn⟩ := hc
    have hall : ∀ n : Fin 24, (Pg.shape ((n.val + 1 : Nat) : Int)).2 = true ∧ (Pg.wordP ((n.val + 1 : Nat) : Int)).size ≠ 0 ∧ Pg.has (Pg.shape ((n.val + 1 : Nat) : Int)).1.flds 65 = decide (0 < (Pg.hasP ((n.val + 1 : Nat) : Int)).1) ∧ Pg.has (Pg.shape ((n.val + 1 : Nat) : Int)).1.flds 66 = decide (1 < (Pg.hasP ((n.val + 1 : Nat) : Int)).1) ∧ Pg.has (Pg.shape ((n.val + 1 : Nat) : Int)).1.flds 67 = decide (2 < (Pg.hasP ((n.val + 1 : Nat) : Int)).1) ∧ Pg.has (Pg.shape ((n.val + 1 : Nat) : Int)).1.flds 78 = (Pg.hasP ((n.val + 1 : Nat) : Int)).2.1 ∧ Pg.has (Pg.shape ((n.val + 1 : Nat) : Int)).1.flds 75 = (Pg.hasP ((n.val + 1 : Nat) : Int)).2.2 := by decide
    obtain ⟨h1, h2, h3, h4, h5, h6, h7⟩ := hall n
    rw [← hn] at h1 h2 h3 h4 h5 h6 h7
    rw [if_neg (by rw [h1]; simp), if_neg (fun e => h2 (by have := congrArg List.length e; rwa [size_list] at this))]
    exact insE_of _ x hx many hm _ _ _ h3 h4 h5 h6 h7
  · rw [if_pos (shape_none x.op h)]
    have : Pg.wordP x.op = ⟨#[]⟩ := by
      unfold Pg.wordP
      by_cases h0 : x.op < 0 ∨ 25 ≤ x.op
      · rw [if_pos h0]
      · rw [if_neg h0, show x.op = 0 by omega]; rfl
    rw [this, if_pos (by rw [ByteArray.toList_eq])]
end Go.Proofs.YtjkkjijlblfgaaaGreatDoor
end

section
namespace Go.Proofs.YtjkkjijlblfgaaaGreatDoor
open Go.RowKit Go.Shelf

set_option maxRecDepth 20000 in
set_option maxHeartbeats 2000000 in
theorem rcheck_any (fuel : Int) (xs : List In) (hx : ∀ x ∈ xs, x.Fits) (v : Value) (w : World) (h : Cd w v xs) :
    Calls Tryz.prog 19 #[.agg #[.int .i64 fuel, v]] w fun e w' => e = .returned (.tuple #[.int .i64 (Pg.checkE fuel xs).1, .int .i64 (Pg.checkE fuel xs).2]) ∧ Below w.heap.size w w' := by
  obtain ⟨p, cap, rfl, h2⟩ := h
  unfold Pg.checkE
  by_cases h1 : fuel < 1
  · rw [if_pos (.inl h1)]
    go_enter Tryz.func19, Tryz.ntmps19
    go_wp2
    go_ret2
    exact ⟨rfl, below_one _ _⟩
  by_cases h3 : 1024 < fuel
  · rw [if_pos (.inr h3)]
    go_enter Tryz.func19, Tryz.ntmps19
    go_wp2
    go_ret2
    exact ⟨rfl, below_one _ _⟩
  rw [if_neg (by omega)]
  by_cases h4 : xs.length = 0
  · rw [if_pos (.inl h4)]
    rw [h4] at h2 ⊢
    go_enter Tryz.func19, Tryz.ntmps19
    go_wp2
    go_ret2
    exact ⟨rfl, below_one _ _⟩
  by_cases h5 : 64 < xs.length
  · rw [if_pos (.inr h5)]
    have b0 : ¬ (xs.length : Int) < 1 := by omega
    have b1 : (64 : Int) < (xs.length : Int) := by omega
    generalize xs.length = m at *
    go_enter Tryz.func19, Tryz.ntmps19
    go_wp2
    go_ret2
    exact ⟨rfl, below_one _ _⟩
  rw [if_neg (by omega)]
  obtain ⟨b, off, rfl, hlt, hc⟩ := h2 (by omega)
  have b0 : ¬ (xs.length : Int) < 1 := by omega
  have b1 : ¬ (64 : Int) < (xs.length : Int) := by omega
  have HC := hide hc
  have HX := hide hx
  clear hc hx
  have hm : xs.length ≤ 64 := by omega
  go_enter Tryz.func19, Tryz.ntmps19
  go_wp2_with fail
  go_loopw [4] (fun s wr => ∃ k : Nat, k ≤ xs.length ∧ s = .int .i64 (k : Int) ∧ Hid (Below (w.heap.size + 1) (w.alloc (.cells #[.int .i64 fuel, .slice (some ⟨b, off, none⟩) xs.length cap] 24)) wr) ∧ Hid (Pg.goE xs.length xs 0 = Pg.goE xs.length (xs.drop k) k)) (fun s _ => xs.length - (intOf s).toNat)
  case atStart => exact ⟨0, Nat.zero_le _, rfl, Below.refl _ _, rfl⟩
  case round =>
    obtain ⟨k, hk, rfl, HB, HE⟩ := hrel
    have hp : Pb wr w.heap.size fuel (.slice (some ⟨b, off, none⟩) xs.length cap) := (HB.out.block w.heap.size (by omega)).trans (heap_alloc_new w _)
    have hpc := hp.c1
    have hpl := hp.lt
    by_cases hkl : k < xs.length
    · have hc : ∀ i u, (xs[k]!).cs[i]? = some u → wr.cell? ⟨b, off + k * 6 + i, none⟩ = some u := fun i u hi =>
        (HB.out.cell (p := ⟨b, off + k * 6 + i, none⟩) (by show b < w.heap.size + 1; omega)).trans ((World.cell?_alloc_past _ _ _ hlt).trans (HC.out k hkl i u hi))
      have c0 := hc 0 _ rfl
      have c1 := hc 1 _ rfl
      have c2 := hc 2 _ rfl
      have c3 := hc 3 _ rfl
      have c4 := hc 4 _ rfl
      have c5 := hc 5 _ rfl
      simp only [Nat.add_zero] at c0
      have hg := goE_drop xs.length xs k hkl
      have HE2 := hide (HE.out.trans hg)
      have hxk := HX.out xs[k]! (by rw [getElem!_pos xs k hkl]; exact List.getElem_mem hkl)
      have HI := hide (wrong_any xs[k]! hxk.k xs.length)
      rw [← insE_ref xs[k]! hxk xs.length hm] at HI
      generalize xs[k]! = x at *
      generalize Pg.insE x xs.length = E at *
      have hki : (k : Int) < (xs.length : Int) := by omega
      clear hc hg hp hxk HE
      go_wp2_with fail
      go_region_held3 (fun w' => w'.cell? ⟨w.heap.size, 1, none⟩ = some (.slice (some ⟨b, off, none⟩) xs.length cap) ∧ w'.cell? ⟨b, off + k * 6, none⟩ = some (.int .i64 x.op) ∧ w'.cell? ⟨b, off + k * 6 + 1, none⟩ = some (.int .i64 x.a) ∧ w'.cell? ⟨b, off + k * 6 + 2, none⟩ = some (.int .i64 x.b) ∧ w'.cell? ⟨b, off + k * 6 + 3, none⟩ = some (.int .i64 x.c) ∧ w'.cell? ⟨b, off + k * 6 + 4, none⟩ = some (.int .i64 x.n) ∧ w'.cell? ⟨b, off + k * 6 + 5, none⟩ = some (.int .u64 (x.k : Int))) (go_keep) (first
        | (go_at_call 41; refine (HI.out _).mono ?_; rintro e w2 ⟨rfl, hb2⟩; have d := (hb2.cell (World.block_lt_of_cell? _ _ hpc)).trans hpc; have d0 := (hb2.cell (World.block_lt_of_cell? _ _ c0)).trans c0; have d1 := (hb2.cell (World.block_lt_of_cell? _ _ c1)).trans c1; have d2 := (hb2.cell (World.block_lt_of_cell? _ _ c2)).trans c2; have d3 := (hb2.cell (World.block_lt_of_cell? _ _ c3)).trans c3; have d4 := (hb2.cell (World.block_lt_of_cell? _ _ c4)).trans c4; have d5 := (hb2.cell (World.block_lt_of_cell? _ _ c5)).trans c5; have HBB := hide hb2; clear hb2))
      have HB2 : Hid (Below (w.heap.size + 1) (w.alloc (.cells #[.int .i64 fuel, .slice (some ⟨b, off, none⟩) xs.length cap] 24)) w2) := HB.out.drew.trans (HBB.out.mono (by show w.heap.size + 1 ≤ wr.heap.size; omega))
      clear HB HBB c0 c1 c2 c3 c4 c5 d d0 d1 d2 d3 d4 d5
      by_cases hE : E = 0
      · subst hE
        go_wp2
        go_roundw
        case rel => exact ⟨k + 1, by omega, by go_num, HB2, by have := HE2.out; rw [if_neg (by simp)] at this; exact this⟩
        case measure => simp [intOf]; omega
      · have hb : (E != 0) = true := by simp [hE]
        go_wp2
        go_ret2
        exact ⟨by rw [show Pg.goE xs.length xs 0 = (E, (k : Int)) by have := HE2.out; rw [if_pos hE] at this; exact this]; rfl, (below_one w _).trans (HB2.out.mono (by omega))⟩
    · obtain rfl : k = xs.length := by omega
      have hki : ¬ (xs.length : Int) < (xs.length : Int) := by omega
      have e0 : Pg.goE xs.length xs 0 = (0, 0) := by rw [HE.out, List.drop_length]; rfl
      have HE0 := hide e0
      clear e0 HE hp
      go_wp2
      go_ret2
      exact ⟨by rw [HE0.out]; rfl, (below_one w _).trans (HB.out.mono (by omega))⟩
end Go.Proofs.YtjkkjijlblfgaaaGreatDoor
end

section
namespace Go.Proofs.YtjkkjijlblfgaaaGreatDoor
open Go.RowKit Go.Shelf

theorem big8_bc (n : Nat) (hn : n < 18446744073709551616) : bc (Pk.big8 n) = [.int .u8 ((n : Int) / 72057594037927936), .int .u8 ((n : Int) / 281474976710656 % 256), .int .u8 ((n : Int) / 1099511627776 % 256), .int .u8 ((n : Int) / 4294967296 % 256), .int .u8 ((n : Int) / 16777216 % 256), .int .u8 ((n : Int) / 65536 % 256), .int .u8 ((n : Int) / 256 % 256), .int .u8 ((n : Int) % 256)] := by
  have e : ∀ x : Nat, (UInt8.ofNat (x % 256)).toNat = x % 256 := fun x => Pk.toNat_ofNat (Nat.mod_lt _ (by decide))
  simp only [bc, Pk.big8, List.map_cons, List.map_nil, e]
  have e0 : ((n / 72057594037927936 % 256 : Nat) : Int) = (n : Int) / 72057594037927936 := by omega
  rw [e0]
  rfl

namespace Pg
def fl (h : Nat × Bool × Bool) : List UInt8 := ([65, 66, 67] : List UInt8).take h.1 ++ ((if h.2.1 then [78] else []) ++ (if h.2.2 then [75] else []))
end Pg
theorem fl_all : ∀ n : Fin 24, (Pg.shape ((n.val + 1 : Nat) : Int)).1.flds.data.toList = Pg.fl (Pg.hasP ((n.val + 1 : Nat) : Int)) ∧ (Pg.shape ((n.val + 1 : Nat) : Int)).1.word = Pg.wordP ((n.val + 1 : Nat) : Int) ∧ (Pg.hasP ((n.val + 1 : Nat) : Int)).1 ≤ 3 := by decide
theorem goE_zero (many : Nat) : ∀ (xs : List In) (i : Nat), (Pg.goE many xs i).1 = 0 → ∀ x ∈ xs, Pg.insE x many = 0
  | [], _, _ => by intro x hx; cases hx
  | x :: r, i, h => by
    unfold Pg.goE at h
    by_cases hx : Pg.insE x many = 0
    · rw [if_neg (by simp [hx])] at h
      intro y hy
      rcases List.mem_cons.1 hy with rfl | hy
      · exact hx
      · exact goE_zero many r (i + 1) h y hy
    · rw [if_pos hx] at h
      exact absurd h hx
theorem check_ins (f : Int) (xs : List In) (h : (Pg.checkE f xs).1 = 0) : ∀ x ∈ xs, Pg.insE x xs.length = 0 := by
  unfold Pg.checkE at h
  split at h
  · cases h
  split at h
  · cases h
  exact goE_zero _ _ _ h
theorem ins_op (x : In) (many : Nat) (h : Pg.insE x many = 0) : ∃ n : Fin 24, x.op = ((n.val + 1 : Nat) : Int) := by
  by_cases h1 : 1 ≤ x.op ∧ x.op ≤ 24
  · exact ⟨⟨x.op.toNat - 1, by omega⟩, by show x.op = ((x.op.toNat - 1 + 1 : Nat) : Int); omega⟩
  · unfold Pg.insE at h
    rw [if_pos (shape_none x.op h1)] at h
    cases h
theorem ins_fl (x : In) (many : Nat) (h : Pg.insE x many = 0) : (Pg.shape x.op).1.flds.data.toList = Pg.fl (Pg.hasP x.op) ∧ (Pg.shape x.op).1.word = Pg.wordP x.op ∧ (Pg.hasP x.op).1 ≤ 3 := by
  obtain ⟨n, hn⟩ := ins_op x many h
  rw [hn]; exact fl_all n
theorem goB_app (x : In) : ∀ (l m : List UInt8) (acc : ByteArray), Pg.goB x (l ++ m) acc = Pg.goB x m (Pg.goB x l acc)
  | [], _, _ => rfl
  | _ :: r, m, _ => goB_app x r m _
theorem goB_pre (x : In) : ∀ (l : List UInt8) (b acc : ByteArray), Pg.goB x l (b ++ acc) = b ++ Pg.goB x l acc
  | [], _, _ => rfl
  | c :: r, b, acc => by unfold Pg.goB; rw [ByteArray.append_assoc]; exact goB_pre x r b _
theorem goB_take (x : In) (j : Nat) (hj : j < 3) (acc : ByteArray) : Pg.goB x (([65, 66, 67] : List UInt8).take (j + 1)) acc = Pg.goB x (([65, 66, 67] : List UInt8).take j) acc ++ ⟨(Pk.enc (Pg.un (Pg.abc x j))).toArray⟩ := by
  match j, hj with
  | 0, _ => rfl
  | 1, _ => rfl
  | 2, _ => rfl
end Go.Proofs.YtjkkjijlblfgaaaGreatDoor
end

section
namespace Go.Proofs.YtjkkjijlblfgaaaGreatDoor
open Go.RowKit Go.Shelf

theorem Pk.fold8_big8' (n : Nat) (h : n < 18446744073709551616) : Pk.fold8 (Pk.big8 n) = n := by
  have e : ∀ x : Nat, (UInt8.ofNat (x % 256)).toNat = x % 256 := fun x => Pk.toNat_ofNat (Nat.mod_lt _ (by decide))
  simp only [Pk.fold8, Pk.big8, List.foldl_cons, List.foldl_nil, e]
  omega
theorem rest_app {b : ByteArray} {p : Nat} {l r : List UInt8} (h : rest b p = l ++ r) : rest b (p + l.length) = r := by
  unfold rest at *
  rw [← List.drop_drop, h, List.drop_left]
theorem num_at {b : ByteArray} {p n most : Nat} {r : List UInt8} (h : rest b p = Pk.enc n ++ r) (hn : n ≤ most) (hm : n < 18446744073709551616) : ∃ q, Pg.numS b most (p, 0) = (n, (q, 0)) ∧ rest b q = r := by
  have hd : Pk.dec 0 0 (rest b p) = (0, n, (Pk.enc n).length) := by rw [h, Pk.dec_enc n 0 0 r (by decide) (by simpa using hm) (.inl rfl)]; simp
  refine ⟨p + (Pk.enc n).length, ?_, rest_app h⟩
  unfold Pg.numS
  rw [if_neg (by simp), if_pos (numK_ok hd hn)]
  unfold numV numQ
  rw [hd]
theorem list_at {b : ByteArray} {p n most : Nat} {r : List UInt8} (h : rest b p = Pk.enc n ++ r) (hn : n ≤ most) (hm : n < 18446744073709551616) : ∃ q, Pg.listS b most (p, 0) = (n, (q, 0)) ∧ rest b q = r := by
  have hd : Pk.dec 0 0 (rest b p) = (0, n, (Pk.enc n).length) := by rw [h, Pk.dec_enc n 0 0 r (by decide) (by simpa using hm) (.inl rfl)]; simp
  refine ⟨p + (Pk.enc n).length, ?_, rest_app h⟩
  unfold Pg.listS
  rw [if_neg (by simp), if_pos (numK_ok hd hn)]
  unfold numV numQ
  rw [hd]
theorem bits_at {b : ByteArray} {p k : Nat} {r : List UInt8} (h : rest b p = Pk.big8 k ++ r) (hk : k < 18446744073709551616) : ∃ q, Pg.bitsS b (p, 0) = (k, (q, 0)) ∧ rest b q = r := by
  have h8 : (Pk.big8 k).length = 8 := rfl
  refine ⟨p + 8, ?_, by have := rest_app h; rwa [h8] at this⟩
  have hz : p + 8 ≤ b.size := by
    have h1 := rest_len b p
    rw [h, List.length_append, h8] at h1
    omega
  unfold Pg.bitsS
  rw [if_neg (by simp), if_pos (by unfold bitsK; rw [if_neg (by omega)])]
  unfold bitsV
  rw [h, List.take_left' h8, Pk.fold8_big8' k hk]
namespace Pg
/-- the bytes of the fields that are named -/
def fbs (x : In) (l : List UInt8) : List UInt8 := l.flatMap fun c => (fieldB x c.toNat).data.toList
def sets (x : In) (l : List UInt8) (y : In) : In := l.foldl (fun y c => setF y c.toNat (get x c.toNat)) y
end Pg
theorem goB_list (x : In) : ∀ (l : List UInt8) (acc : ByteArray), (Pg.goB x l acc).data.toList = acc.data.toList ++ Pg.fbs x l
  | [], acc => by unfold Pg.goB Pg.fbs; simp
  | c :: r, acc => by
    unfold Pg.goB
    rw [goB_list x r, ByteArray.data_append, Array.toList_append]
    unfold Pg.fbs
    rw [List.flatMap_cons, List.append_assoc]
theorem flds_at {b : ByteArray} (x : In) (hk : x.k < 18446744073709551616) : ∀ (l : List UInt8) (y : In) (p : Nat) (r : List UInt8), (∀ c ∈ l, c.toNat ≠ 75 → Pg.get x c.toNat ≤ 64) → rest b p = Pg.fbs x l ++ r → ∃ q, Pg.fldsS b l (y, (p, 0)) = (Pg.sets x l y, (q, 0)) ∧ rest b q = r
  | [], y, p, r, _, h => ⟨p, rfl, h⟩
  | c :: t, y, p, r, hok, h => by
    have e : Pg.fbs x (c :: t) = (Pg.fieldB x c.toNat).data.toList ++ Pg.fbs x t := rfl
    rw [e, List.append_assoc] at h
    have hf : ∃ q, Pg.fldS b y c.toNat (p, 0) = (Pg.setF y c.toNat (Pg.get x c.toNat), (q, 0)) ∧ rest b q = Pg.fbs x t ++ r := by
      by_cases h75 : c.toNat = 75
      · have h2 : rest b p = Pk.big8 x.k ++ (Pg.fbs x t ++ r) := by rw [h]; unfold Pg.fieldB; rw [if_pos h75]
        obtain ⟨q, hq, hr⟩ := bits_at h2 hk
        refine ⟨q, ?_, hr⟩
        unfold Pg.fldS
        rw [if_pos h75, hq, h75]
        rfl
      · have h1 := hok c (by simp) h75
        have h2 : rest b p = Pk.enc (Pg.get x c.toNat) ++ (Pg.fbs x t ++ r) := by rw [h]; unfold Pg.fieldB; rw [if_neg h75]
        obtain ⟨q, hq, hr⟩ := num_at h2 h1 (by omega)
        refine ⟨q, ?_, hr⟩
        unfold Pg.fldS
        rw [if_neg h75, hq]
    obtain ⟨q, hq, hr⟩ := hf
    obtain ⟨q2, hq2, hr2⟩ := flds_at x hk t (Pg.setF y c.toNat (Pg.get x c.toNat)) q r (fun d hd => hok d (by simp [hd])) hr
    refine ⟨q2, ?_, hr2⟩
    unfold Pg.fldsS
    rw [hq]
    exact hq2
theorem wrong_zero {h : Nat × Bool × Bool} {x : In} {many : Nat} (e : Pg.wrongP h x many = 0) : Pg.regE h.1 0 x.a = 0 ∧ Pg.regE h.1 1 x.b = 0 ∧ Pg.regE h.1 2 x.c = 0 ∧ Pg.nE h.2.1 x.n many = 0 ∧ Pg.kE h.2.2 x.k = 0 := by
  unfold Pg.wrongP at e
  by_cases h1 : Pg.regsE h.1 x [0, 1, 2] = 0
  · rw [if_neg (by simp [h1])] at e
    by_cases h2 : Pg.nE h.2.1 x.n many = 0
    · rw [if_neg (by simp [h2])] at e
      have hG : Pg.regsE h.1 x [0, 1, 2] = if Pg.regE h.1 0 x.a ≠ 0 then Pg.regE h.1 0 x.a else if Pg.regE h.1 1 x.b ≠ 0 then Pg.regE h.1 1 x.b else if Pg.regE h.1 2 x.c ≠ 0 then Pg.regE h.1 2 x.c else 0 := rfl
      rw [hG] at h1
      by_cases ha : Pg.regE h.1 0 x.a = 0
      · rw [if_neg (by simp [ha])] at h1
        by_cases hb : Pg.regE h.1 1 x.b = 0
        · rw [if_neg (by simp [hb])] at h1
          by_cases hc : Pg.regE h.1 2 x.c = 0
          · exact ⟨ha, hb, hc, h2, e⟩
          · rw [if_pos hc] at h1; exact absurd h1 hc
        · rw [if_pos hb] at h1; exact absurd h1 hb
      · rw [if_pos ha] at h1; exact absurd h1 ha
    · rw [if_pos h2] at e; exact absurd e h2
  · rw [if_pos h1] at e; exact absurd e h1
theorem reg_ok {r i : Nat} {v : Int} (h : Pg.regE r i v = 0) : 0 ≤ v ∧ v ≤ 7 ∧ (r ≤ i → v = 0) := by
  unfold Pg.regE at h
  by_cases hr : r ≤ i
  · rw [if_pos hr] at h
    by_cases hv : v = 0
    · exact ⟨by omega, by omega, fun _ => hv⟩
    · rw [if_pos hv] at h; cases h
  · rw [if_neg hr] at h
    by_cases hv : v < 0 ∨ 7 < v
    · rw [if_pos hv] at h; cases h
    · exact ⟨by omega, by omega, fun k => absurd k hr⟩
theorem n_ok {nb : Bool} {v : Int} {many : Nat} (h : Pg.nE nb v many = 0) : 0 ≤ v ∧ v ≤ many ∧ (nb = false → v = 0) := by
  unfold Pg.nE at h
  cases nb with
  | true =>
    rw [if_pos rfl] at h
    by_cases hv : v < 0 ∨ (many : Int) < v
    · rw [if_pos hv] at h; cases h
    · exact ⟨by omega, by omega, fun k => by cases k⟩
  | false =>
    rw [if_neg (by simp)] at h
    by_cases hv : v = 0
    · exact ⟨by omega, by omega, fun _ => hv⟩
    · rw [if_pos hv] at h; cases h
theorem k_ok {kb : Bool} {k : Nat} (h : Pg.kE kb k = 0) : kb = false → k = 0 := by
  unfold Pg.kE at h
  rintro rfl
  rw [if_neg (by simp)] at h
  by_cases hv : k = 0
  · exact hv
  · rw [if_pos hv] at h; cases h
structure Ok (x : In) (many : Nat) : Prop where
  op : 1 ≤ x.op ∧ x.op ≤ 24
  a : 0 ≤ x.a ∧ x.a ≤ 7 ∧ ((Pg.hasP x.op).1 ≤ 0 → x.a = 0)
  b : 0 ≤ x.b ∧ x.b ≤ 7 ∧ ((Pg.hasP x.op).1 ≤ 1 → x.b = 0)
  c : 0 ≤ x.c ∧ x.c ≤ 7 ∧ ((Pg.hasP x.op).1 ≤ 2 → x.c = 0)
  n : 0 ≤ x.n ∧ x.n ≤ many ∧ ((Pg.hasP x.op).2.1 = false → x.n = 0)
  k : (Pg.hasP x.op).2.2 = false → x.k = 0
theorem ins_ok {x : In} (hx : x.Fits) {many : Nat} (hm : many ≤ 64) (h : Pg.insE x many = 0) : Ok x many := by
  obtain ⟨n, hn⟩ := ins_op x many h
  rw [insE_ref x hx many hm] at h
  by_cases hw : (Pg.wordP x.op).toList = []
  · rw [if_pos hw] at h; cases h
  rw [if_neg hw] at h
  obtain ⟨h1, h2, h3, h4, h5⟩ := wrong_zero h
  exact ⟨by have := n.isLt; omega, reg_ok h1, reg_ok h2, reg_ok h3, n_ok h4, k_ok h5⟩
theorem un_id {v : Int} (h : 0 ≤ v) (h2 : v ≤ 1024) : (Pg.un v : Int) = v := by unfold Pg.un; omega
theorem sets_ok {x : In} {many : Nat} (hm : many ≤ 64) (h : Ok x many) (h3 : (Pg.hasP x.op).1 ≤ 3) : Pg.sets x (Pg.fl (Pg.hasP x.op)) ⟨x.op, 0, 0, 0, 0, 0⟩ = x := by
  obtain ⟨hop, ha, hb, hc, hn, hk⟩ := h
  have ea := un_id ha.1 (by omega)
  have eb := un_id hb.1 (by omega)
  have ec := un_id hc.1 (by omega)
  have en := un_id hn.1 (by omega)
  generalize Pg.hasP x.op = hp at *
  obtain ⟨r, nb, kb⟩ := hp
  obtain ⟨op, a, b, c, n, k⟩ := x
  simp only at *
  match r, h3 with
  | 0, _ =>
    have := ha.2.2 (by omega); have := hb.2.2 (by omega); have := hc.2.2 (by omega)
    cases nb <;> cases kb <;> simp_all [Pg.sets, Pg.fl, Pg.setF, Pg.get]
  | 1, _ =>
    have := hb.2.2 (by omega); have := hc.2.2 (by omega)
    cases nb <;> cases kb <;> simp_all [Pg.sets, Pg.fl, Pg.setF, Pg.get]
  | 2, _ =>
    have := hc.2.2 (by omega)
    cases nb <;> cases kb <;> simp_all [Pg.sets, Pg.fl, Pg.setF, Pg.get]
  | 3, _ =>
    cases nb <;> cases kb <;> simp_all [Pg.sets, Pg.fl, Pg.setF, Pg.get]
theorem get_ok {x : In} {many : Nat} (hm : many ≤ 64) (h : Ok x many) (l : Nat) (hl : l ≠ 75) (hl2 : l = 65 ∨ l = 66 ∨ l = 67 ∨ l = 78) : Pg.get x l ≤ 64 := by
  have ea := un_id h.a.1 (by have := h.a; omega)
  have eb := un_id h.b.1 (by have := h.b; omega)
  have ec := un_id h.c.1 (by have := h.c; omega)
  have en := un_id h.n.1 (by have := h.n; omega)
  have := h.a; have := h.b; have := h.c; have := h.n
  rcases hl2 with rfl | rfl | rfl | rfl
  · show Pg.un x.a ≤ 64; omega
  · show Pg.un x.b ≤ 64; omega
  · show Pg.un x.c ≤ 64; omega
  · show Pg.un x.n ≤ 64; omega
theorem fl_mem {hp : Nat × Bool × Bool} {c : UInt8} (h : c ∈ Pg.fl hp) : c = 65 ∨ c = 66 ∨ c = 67 ∨ c = 78 ∨ c = 75 := by
  obtain ⟨r, nb, kb⟩ := hp
  unfold Pg.fl at h
  rcases List.mem_append.1 h with h | h
  · have := List.mem_of_mem_take h
    simp at this
    rcases this with h | h | h <;> simp [h]
  · cases nb <;> cases kb <;> simp at h
    · simp [h]
    · simp [h]
    · rcases h with h | h <;> simp [h]
theorem ins_at {b : ByteArray} {p many : Nat} {r : List UInt8} {x : In} (hx : x.Fits) (hm : many ≤ 64) (h : Pg.insE x many = 0) (hr : rest b p = (Pg.insB x).data.toList ++ r) : ∃ q, Pg.insS b (p, 0) = (x, (q, 0)) ∧ rest b q = r := by
  have hok := ins_ok hx hm h
  obtain ⟨hf, _, h3⟩ := ins_fl x many h
  have hu := un_id (v := x.op) (by have := hok.op; omega) (by have := hok.op; omega)
  unfold Pg.insB at hr
  rw [hf, goB_list, List.append_assoc] at hr
  obtain ⟨q, hq, hr2⟩ := num_at (most := 64) hr (by have := hok.op; omega) (un_lt _)
  obtain ⟨q2, hq2, hr3⟩ := flds_at x hx.k (Pg.fl (Pg.hasP x.op)) ⟨x.op, 0, 0, 0, 0, 0⟩ q r (fun c hc h75 => get_ok hm hok c.toNat h75 (by
    rcases fl_mem hc with rfl | rfl | rfl | rfl | rfl
    · exact .inl rfl
    · exact .inr (.inl rfl)
    · exact .inr (.inr (.inl rfl))
    · exact .inr (.inr (.inr rfl))
    · exact absurd rfl h75)) hr2
  refine ⟨q2, ?_, hr3⟩
  unfold Pg.insS
  rw [hq, hu, hf, hq2, sets_ok hm hok h3]
theorem many_at {b : ByteArray} {many : Nat} (hm : many ≤ 64) : ∀ (xs : List In) (p : Nat) (r : List UInt8) (acc : List In), (∀ x ∈ xs, x.Fits) → (∀ x ∈ xs, Pg.insE x many = 0) → rest b p = (xs.flatMap fun x => (Pg.insB x).data.toList) ++ r → ∃ q, Pg.manyS b xs.length (p, 0) acc = (acc ++ xs, (q, 0)) ∧ rest b q = r
  | [], p, r, acc, _, _, h => ⟨p, by rw [List.append_nil]; rfl, h⟩
  | x :: t, p, r, acc, hx, hi, h => by
    rw [List.flatMap_cons, List.append_assoc] at h
    obtain ⟨q, hq, hr⟩ := ins_at (hx x (by simp)) hm (hi x (by simp)) h
    obtain ⟨q2, hq2, hr2⟩ := many_at hm t q r (acc ++ [x]) (fun y hy => hx y (by simp [hy])) (fun y hy => hi y (by simp [hy])) hr
    refine ⟨q2, ?_, hr2⟩
    show Pg.manyS b t.length (Pg.insS b (p, 0)).2 (acc ++ [(Pg.insS b (p, 0)).1]) = _
    rw [hq, hq2, List.append_assoc]
    rfl
theorem allB_flat : ∀ (xs : List In) (acc : List UInt8), Pg.allB xs acc = acc ++ xs.flatMap fun x => (Pg.insB x).data.toList
  | [], acc => by unfold Pg.allB; simp
  | x :: r, acc => by unfold Pg.allB; rw [allB_flat r, List.flatMap_cons, List.append_assoc]
end Go.Proofs.YtjkkjijlblfgaaaGreatDoor
end

section
namespace Go.Proofs.YtjkkjijlblfgaaaGreatDoor
open Go.RowKit Go.Shelf

namespace Pg
/-- the document's reader behind j registers, and the register that comes next -/
def rs (b : ByteArray) (s : Nat × Nat) : Nat → Nat × Nat
  | 0 => s
  | j + 1 => (numS b 7 (rs b s j)).2
def rv (b : ByteArray) (s : Nat × Nat) (j : Nat) : Nat := (numS b 7 (rs b s j)).1
def ra (b : ByteArray) (s : Nat × Nat) (r i : Nat) : Int := if i < r then (rv b s i : Int) else 0
def rn (b : ByteArray) (n : Bool) (s : Nat × Nat) : Nat × (Nat × Nat) := if n then numS b 64 s else (0, s)
def rk (b : ByteArray) (k : Bool) (s : Nat × Nat) : Nat × (Nat × Nat) := if k then bitsS b s else (0, s)
/-- the fields of an instruction, as the document reads them -/
def rfS (b : ByteArray) (op : Int) (h : Nat × Bool × Bool) (s : Nat × Nat) : In × (Nat × Nat) :=
  (⟨op, ra b s h.1 0, ra b s h.1 1, ra b s h.1 2, ((rn b h.2.1 (rs b s h.1)).1 : Int), (rk b h.2.2 (rn b h.2.1 (rs b s h.1)).2).1⟩, (rk b h.2.2 (rn b h.2.1 (rs b s h.1)).2).2)
def rinsS (b : ByteArray) (s : Nat × Nat) : In × (Nat × Nat) := rfS b ((numS b 24 s).1 : Int) (hasP ((numS b 24 s).1 : Int)) (numS b 24 s).2
def rmanyS (b : ByteArray) : Nat → Nat × Nat → List In → List In × (Nat × Nat)
  | 0, s, acc => (acc, s)
  | n + 1, s, acc => if s.2 ≠ 0 then (acc, s) else rmanyS b n (rinsS b s).2 (acc ++ [(rinsS b s).1])
def rrowS (b : ByteArray) : List In × (Nat × Nat) := rmanyS b (listS b 64 (numS b 1024 (0, 0)).2).1 (listS b 64 (numS b 1024 (0, 0)).2).2 []
def runpackS (b : ByteArray) : (Nat × List In) × Int := if 1024 < b.size then ((0, []), 57) else if endE b ((rrowS b).2.1 : Int) ((rrowS b).2.2 : Int) ≠ 0 ∨ (checkE ((numS b 1024 (0, 0)).1 : Int) (rrowS b).1).1 ≠ 0 then ((0, []), 54) else (((numS b 1024 (0, 0)).1, (rrowS b).1), 0)
end Pg

theorem has_all' (op : Int) : Pg.hasP op = (1, false, true) ∨ Pg.hasP op = (2, false, false) ∨ Pg.hasP op = (3, false, false) ∨ Pg.hasP op = (0, true, false) ∨ Pg.hasP op = (1, true, false) ∨ Pg.hasP op = (1, false, false) ∨ Pg.hasP op = (0, false, false) := by
  unfold Pg.hasP
  repeat' split
  all_goals simp
theorem numS_dead (b : ByteArray) (m : Nat) {s : Nat × Nat} (h : s.2 ≠ 0) : Pg.numS b m s = (0, s) := by unfold Pg.numS; rw [if_pos h]
theorem bitsS_dead (b : ByteArray) {s : Nat × Nat} (h : s.2 ≠ 0) : Pg.bitsS b s = (0, s) := by unfold Pg.bitsS; rw [if_pos h]
theorem fldS_dead (b : ByteArray) (x : In) (l : Nat) {s : Nat × Nat} (h : s.2 ≠ 0) : (Pg.fldS b x l s).2 = s := by
  unfold Pg.fldS
  split
  · rw [bitsS_dead b h]
  · rw [numS_dead b 64 h]
theorem fldsS_dead (b : ByteArray) : ∀ (l : List UInt8) (x : In) (s : Nat × Nat), s.2 ≠ 0 → (Pg.fldsS b l (x, s)).2 = s
  | [], _, _, _ => rfl
  | c :: t, x, s, h => by
    have e : Pg.fldsS b (c :: t) (x, s) = Pg.fldsS b t ((Pg.fldS b x c.toNat s).1, (Pg.fldS b x c.toNat s).2) := rfl
    rw [e, fldS_dead b x c.toNat h]
    exact fldsS_dead b t _ s h
theorem insS_dead (b : ByteArray) {s : Nat × Nat} (h : s.2 ≠ 0) : (Pg.insS b s).2 = s := by
  unfold Pg.insS
  rw [numS_dead b 64 h]
  exact fldsS_dead b _ _ s h
theorem manyS_dead (b : ByteArray) : ∀ (n : Nat) (s : Nat × Nat) (acc : List In), s.2 ≠ 0 → (Pg.manyS b n s acc).2 = s
  | 0, _, _, _ => rfl
  | n + 1, s, acc, h => by rw [manyS_succ, insS_dead b h]; exact manyS_dead b n s _ h
theorem numS_live (b : ByteArray) (m : Nat) {s : Nat × Nat} (h : s.2 = 0) : Pg.numS b m s = if numK b s.1 m 21 = 0 then (numV b s.1, (numQ b s.1, 0)) else (0, (s.1, numK b s.1 m 21)) := by
  unfold Pg.numS
  exact if_neg (by simp [h])
theorem numK_eq (b : ByteArray) (p m : Nat) : numK b p m 21 = if (Pk.dec 0 0 (rest b p)).1 ≠ 0 then (Pk.dec 0 0 (rest b p)).1 else if m < numV b p then 21 else 0 := rfl
/-- a narrower bound: the same, or a fault -/
theorem numS_two (b : ByteArray) {m : Nat} (hm : m ≤ 64) (s : Nat × Nat) (hs : s.2 = 0) : Pg.numS b m s = Pg.numS b 64 s ∨ ((Pg.numS b m s).2.2 ≠ 0 ∧ ((Pg.numS b 64 s).2.2 ≠ 0 ∨ m < (Pg.numS b 64 s).1)) := by
  rw [numS_live b m hs, numS_live b 64 hs]
  have e1 := numK_eq b s.1 m
  have e2 := numK_eq b s.1 64
  by_cases h1 : (Pk.dec 0 0 (rest b s.1)).1 ≠ 0
  · rw [if_pos h1] at e1 e2
    rw [e1, e2]
    exact .inl rfl
  · rw [if_neg h1] at e1 e2
    by_cases h2 : m < numV b s.1
    · rw [if_pos h2] at e1
      rw [e1]
      refine .inr ⟨by simp, ?_⟩
      by_cases h3 : 64 < numV b s.1
      · rw [if_pos h3] at e2
        rw [e2]
        exact .inl (by simp)
      · rw [if_neg h3] at e2
        rw [e2]
        exact .inr h2
    · rw [if_neg h2] at e1
      rw [if_neg (by omega)] at e2
      rw [e1, e2]
      exact .inl rfl
theorem rs_dead (b : ByteArray) {s : Nat × Nat} (h : s.2 ≠ 0) : ∀ j, Pg.rs b s j = s
  | 0 => rfl
  | j + 1 => by unfold Pg.rs; rw [rs_dead b h j, numS_dead b 7 h]
theorem rn_dead (b : ByteArray) (n : Bool) {s : Nat × Nat} (h : s.2 ≠ 0) : (Pg.rn b n s).2 = s := by
  unfold Pg.rn; split
  · rw [numS_dead b 64 h]
  · rfl
theorem rk_dead (b : ByteArray) (n : Bool) {s : Nat × Nat} (h : s.2 ≠ 0) : (Pg.rk b n s).2 = s := by
  unfold Pg.rk; split
  · rw [bitsS_dead b h]
  · rfl
theorem rfS_dead (b : ByteArray) (op : Int) (h : Nat × Bool × Bool) {s : Nat × Nat} (hs : s.2 ≠ 0) : (Pg.rfS b op h s).2 = s := by
  unfold Pg.rfS
  show (Pg.rk b h.2.2 (Pg.rn b h.2.1 (Pg.rs b s h.1)).2).2 = s
  rw [rs_dead b hs, rn_dead b _ hs, rk_dead b _ hs]
/-- a register behind the first j ones, as both read it -/
theorem rfS_from (b : ByteArray) (op : Int) (h : Nat × Bool × Bool) (s : Nat × Nat) (j : Nat) (hj : j ≤ h.1) (hs : (Pg.rs b s j).2 ≠ 0) : (Pg.rfS b op h s).2.2 ≠ 0 := by
  have key : ∀ i, (Pg.rs b s (j + i)) = Pg.rs b s j := by
    intro i
    induction i with
    | zero => rfl
    | succ i ih => show (Pg.numS b 7 (Pg.rs b s (j + i))).2 = _; rw [ih, numS_dead b 7 hs]
  have e : Pg.rs b s h.1 = Pg.rs b s j := by have := key (h.1 - j); rwa [Nat.add_sub_cancel' hj] at this
  unfold Pg.rfS
  show (Pg.rk b h.2.2 (Pg.rn b h.2.1 (Pg.rs b s h.1)).2).2.2 ≠ 0
  rw [e, rn_dead b _ hs, rk_dead b _ hs]
  exact hs
end Go.Proofs.YtjkkjijlblfgaaaGreatDoor
end

section
namespace Go.Proofs.YtjkkjijlblfgaaaGreatDoor
open Go.RowKit Go.Shelf

/-- the document's reader, a block of its own -/
def Rq (w : World) (G : Nat) (b : ByteArray) (s : Nat × Nat) : Prop := RR w G 0 b (s.1 : Int) (s.2 : Int) (if (s.2 : Int) = 0 then 0 else (s.1 : Int))
theorem Rq.c2 {w : World} {G : Nat} {b : ByteArray} {s : Nat × Nat} (h : Rq w G b s) : w.cell? ⟨G, 2, none⟩ = some (.int .i64 (s.2 : Int)) := RR.c2 h
theorem Rq.lt {w : World} {G : Nat} {b : ByteArray} {s : Nat × Nat} (h : Rq w G b s) : G < w.heap.size := RR.lt h
theorem Rq.keep {w w' : World} {G : Nat} {b : ByteArray} {s : Nat × Nat} (h : Rq w G b s) (hs : w'.heap[G]? = w.heap[G]?) : Rq w' G b s := RR.keep h hs
theorem Rq.grown {w w' : World} {G : Nat} {b : ByteArray} {s : Nat × Nat} (h : Rq w G b s) {r : Option Nat} (g : w.grownBy w' r) (hn : some G ≠ r) : Rq w' G b s := h.keep (g.block G h.lt hn)
theorem rw_grown {G o : Nat} {w w' : World} (h : RW G o w w') : w.grownBy w' (some G) := ⟨h.os, h.tape, h.output, by rw [h.size]; exact Nat.le_refl _, fun i _ hn => h.other i (fun e => hn (by rw [e]))⟩
theorem hpost_st {w w' : World} {G : Nat} {p : Nat} {b : ByteArray} {A Z : Value} {q k : Nat} {e : Ending} (h : HPost w G 0 p b A Z q k e w') :
    e = .returned (if k = 0 then A else Z) ∧ Rq w' G b (if k = 0 then (q, 0) else (p, k)) ∧ w.grownBy w' (some G) := by
  rcases h with ⟨h1, h2, h3, h4⟩ | ⟨h1, h2, h3, h4⟩
  · rw [if_pos h1, if_pos h1]
    exact ⟨h2, h3, rw_grown h4⟩
  · rw [if_neg h1, if_neg h1]
    refine ⟨h2, ?_, rw_grown h4⟩
    unfold Rq
    rw [if_neg (by simp only []; omega)]
    exact h3
theorem qnum_st {w : World} {G : Nat} {b : ByteArray} {s : Nat × Nat} {most : Nat} (h : Rq w G b s) (hp : s.1 ≤ b.size) (hb : b.size ≤ 140737488351232) :
    Calls Tryz.prog 27 #[.pointer (some ⟨G, 0, none⟩), .int .u64 (most : Int)] w fun e w' => e = .returned (.int .u64 ((Pg.numS b most s).1 : Int)) ∧ Rq w' G b (Pg.numS b most s).2 ∧ w.grownBy w' (some G) := by
  obtain ⟨p, f⟩ := s
  by_cases hf : f = 0
  · subst hf
    refine (qnum_live (most := most) (o := 0) h hp hb).mono ?_
    intro e w' hF
    obtain ⟨h1, h2, h3⟩ := hpost_st hF
    unfold Pg.numS
    rw [if_neg (by simp)]
    by_cases hk : numK b p most 21 = 0
    · rw [if_pos hk] at h1 h2; rw [if_pos hk]; exact ⟨h1, h2, h3⟩
    · rw [if_neg hk] at h1 h2; rw [if_neg hk]; exact ⟨h1, h2, h3⟩
  · refine (qnum_dead (o := 0) (most := (most : Int)) h (by show (f : Int) ≠ 0; omega)).mono ?_
    rintro e w' ⟨h1, h2, h3⟩
    unfold Pg.numS
    rw [if_pos hf]
    exact ⟨h1, h2, rw_grown h3⟩
theorem qlist_st {w : World} {G : Nat} {b : ByteArray} {s : Nat × Nat} {most : Nat} (hm : (most : Int) ≤ 9223372036854775807) (h : Rq w G b s) (hp : s.1 ≤ b.size) (hb : b.size ≤ 140737488351232) :
    Calls Tryz.prog 28 #[.pointer (some ⟨G, 0, none⟩), .int .i64 (most : Int)] w fun e w' => e = .returned (.int .i64 ((Pg.listS b most s).1 : Int)) ∧ Rq w' G b (Pg.listS b most s).2 ∧ w.grownBy w' (some G) := by
  obtain ⟨p, f⟩ := s
  by_cases hf : f = 0
  · subst hf
    refine (qlist_live (most := (most : Int)) (o := 0) hm h hp hb).mono ?_
    intro e w' hF
    obtain ⟨h1, h2, h3⟩ := hpost_st hF
    unfold Pg.listS
    rw [if_neg (by simp)]
    rw [Int.toNat_natCast] at h1 h2
    by_cases hk : numK b p most 23 = 0
    · rw [if_pos hk] at h1 h2; rw [if_pos hk]; exact ⟨h1, h2, h3⟩
    · rw [if_neg hk] at h1 h2; rw [if_neg hk]; exact ⟨h1, h2, h3⟩
  · refine (qlist_dead (o := 0) (most := (most : Int)) hm h (by show (f : Int) ≠ 0; omega)).mono ?_
    rintro e w' ⟨h1, h2, h3⟩
    unfold Pg.listS
    rw [if_pos hf]
    exact ⟨h1, h2, rw_grown h3⟩
theorem qbits_st {w : World} {G : Nat} {b : ByteArray} {s : Nat × Nat} (h : Rq w G b s) (hp : s.1 ≤ b.size) (hb : b.size ≤ 140737488351232) :
    Calls Tryz.prog 30 #[.pointer (some ⟨G, 0, none⟩)] w fun e w' => e = .returned (.int .u64 ((Pg.bitsS b s).1 : Int)) ∧ Rq w' G b (Pg.bitsS b s).2 ∧ w.grownBy w' (some G) := by
  obtain ⟨p, f⟩ := s
  by_cases hf : f = 0
  · subst hf
    refine (qbits_live (o := 0) h hp hb).mono ?_
    intro e w' hF
    obtain ⟨h1, h2, h3⟩ := hpost_st hF
    unfold Pg.bitsS
    rw [if_neg (by simp)]
    by_cases hk : bitsK b p = 0
    · rw [if_pos hk] at h1 h2; rw [if_pos hk]; exact ⟨h1, h2, h3⟩
    · rw [if_neg hk] at h1 h2; rw [if_neg hk]; exact ⟨h1, h2, h3⟩
  · refine (qbits_dead (o := 0) h (by show (f : Int) ≠ 0; omega)).mono ?_
    rintro e w' ⟨h1, h2, h3⟩
    unfold Pg.bitsS
    rw [if_pos hf]
    exact ⟨h1, h2, rw_grown h3⟩
theorem rs_le (b : ByteArray) (s : Nat × Nat) (hs : s.1 ≤ b.size) : ∀ j, (Pg.rs b s j).1 ≤ b.size
  | 0 => hs
  | j + 1 => (numS_le b 7 _ (rs_le b s hs j)).2
theorem rn_le (b : ByteArray) (n : Bool) (s : Nat × Nat) (hs : s.1 ≤ b.size) : (Pg.rn b n s).2.1 ≤ b.size ∧ (Pg.rn b n s).1 ≤ 64 := by
  unfold Pg.rn
  split
  · exact ⟨(numS_le b 64 s hs).2, (numS_le b 64 s hs).1⟩
  · exact ⟨hs, by simp⟩
theorem rk_le (b : ByteArray) (n : Bool) (s : Nat × Nat) (hs : s.1 ≤ b.size) : (Pg.rk b n s).2.1 ≤ b.size ∧ (Pg.rk b n s).1 < 18446744073709551616 := by
  unfold Pg.rk
  split
  · exact ⟨(bitsS_le b s hs).2, (bitsS_le b s hs).1⟩
  · exact ⟨hs, by simp⟩
/-- three numbers in a block -/
def Tb (w : World) (B : Nat) (a b c : Int) : Prop := w.heap[B]? = some (.cells #[.int .i64 a, .int .i64 b, .int .i64 c] 62 (0, 0))
theorem Tb.lt {w : World} {B : Nat} {a b c : Int} (h : Tb w B a b c) : B < w.heap.size := lt_of_block h
theorem Tb.grown {w w' : World} {B : Nat} {a b c : Int} (h : Tb w B a b c) {r : Option Nat} (g : w.grownBy w' r) (hn : some B ≠ r) : Tb w' B a b c := (g.block B h.lt hn).trans h
theorem Tb.z {w : World} {B : Nat} {a b c : Int} (h : Tb w B a b c) (k : Nat) : w.frozen? ⟨B, k, none⟩ = false := by unfold Tb at h; simp [World.frozen?, h]
theorem Tb.cells {w : World} {B : Nat} {a b c : Int} (h : Tb w B a b c) : w.cell? ⟨B, 0, none⟩ = some (.int .i64 a) ∧ w.cell? ⟨B, 1, none⟩ = some (.int .i64 b) ∧ w.cell? ⟨B, 2, none⟩ = some (.int .i64 c) := by
  unfold Tb at h
  exact ⟨by simp [World.cell?, h], by simp [World.cell?, h], by simp [World.cell?, h]⟩
theorem Tb.set {w : World} {B : Nat} {b : ByteArray} {s : Nat × Nat} {j : Nat} (hj : j < 3) (h : Tb w B (Pg.ra b s j 0) (Pg.ra b s j 1) (Pg.ra b s j 2)) : Tb (w.setCell ⟨B, j, none⟩ (.int .i64 (Pg.rv b s j : Int))) B (Pg.ra b s (j + 1) 0) (Pg.ra b s (j + 1) 1) (Pg.ra b s (j + 1) 2) := by
  unfold Tb at *
  rw [heap_set_self w B j _ _ _ _ h]
  match j, hj with
  | 0, _ => simp [Pg.ra]
  | 1, _ => simp [Pg.ra]
  | 2, _ => simp [Pg.ra]
end Go.Proofs.YtjkkjijlblfgaaaGreatDoor
end
