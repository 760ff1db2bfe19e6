import Derived.Test.YtpgehocadohkiaaGreatDoorMgAW
import Derived.Test.YtpgehocadohkiaaGreatDoorMgAV
import Derived.Deep.QuietTactic

section
namespace Go.Proofs.YtpgehocadohkiaaGreatDoor
open Go.RowKit Go.Shelf

def exI : List In := [⟨1, 0, 0, 0, 0, 4609434218613702656⟩, ⟨21, 0, 0, 0, 0, 0⟩, ⟨14, 0, 0, 0, 3, 0⟩]
theorem ex_check : Pg.checkE 9 exI = (0, 0) := by kernel_rfl
theorem ex_print : Pg.printS 9 exI = ⟨#[102, 117, 101, 108, 32, 57, 10, 115, 101, 116, 32, 114, 48, 32, 51, 112, 45, 49, 10, 101, 109, 105, 116, 32, 114, 48, 10, 106, 117, 109, 112, 32, 51, 10]⟩ := by kernel_rfl
theorem ex_parse : Pg.parseS ⟨#[102, 117, 101, 108, 32, 57, 10, 115, 101, 116, 32, 114, 48, 32, 51, 112, 45, 49, 10, 101, 109, 105, 116, 32, 114, 48, 10, 106, 117, 109, 112, 32, 51, 10]⟩ = ((9, exI), (0, 0)) := by kernel_rfl
theorem ex_pack : Pg.packS 9 exI = ⟨#[9, 3, 1, 0, 63, 248, 0, 0, 0, 0, 0, 0, 21, 0, 14, 3]⟩ := by kernel_rfl
theorem ex_unpack : Pg.unpackS ⟨#[9, 3, 1, 0, 63, 248, 0, 0, 0, 0, 0, 0, 21, 0, 14, 3]⟩ = ((9, exI), 0) := by kernel_rfl
theorem ex_zero : Pg.checkE 0 [] = (56, 0) := by kernel_rfl
theorem ex_none : Pg.parseS ⟨#[]⟩ = ((0, []), (55, 1)) := by kernel_rfl
theorem ex_empty : Pg.unpackS ⟨#[]⟩ = ((0, []), 54) := by kernel_rfl
theorem exI_k : ∀ x ∈ exI, x.k < 18446744073709551616 := by decide

theorem cd_block {w : World} {b cap : Nat} {xs : List In} {t : TypeId} {fz : Nat × Nat} (h : w.heap[b]? = some (.cells (Pg.flat xs).toArray t fz)) : Cd w (.slice (some ⟨b, 0, none⟩) xs.length cap) xs := by
  refine ⟨_, cap, rfl, fun _ => ⟨b, 0, rfl, lt_of_block h, fun j hj i u hi => ?_⟩⟩
  have hi6 : i < 6 := (List.getElem?_eq_some_iff.1 hi).1
  rw [← flat_get In.cs 6 (fun _ => rfl) xs j i hj hi6] at hi
  simp only [World.cell?, h]
  show (Pg.flat xs).toArray[0 + j * 6 + i]? = some u
  rw [Nat.zero_add, List.getElem?_toArray]
  exact hi
theorem guardI (op : BinOp) (x y : Operand) (xs ys : Array Value) (w : World) : (eqGuard op 71 x y (.agg xs) (.agg ys)).run Tryz.prog w = .ok () w := run_eqGuard_agg w op _ x y xs ys (by kernel_rfl)
theorem eqI_self (x : In) (w : World) : (Op.equalIn 10000 71 (.agg #[.int .i64 x.op, .int .i64 x.a, .int .i64 x.b, .int .i64 x.c, .int .i64 x.n, .int .u64 (x.k : Int)]) (.agg #[.int .i64 x.op, .int .i64 x.a, .int .i64 x.b, .int .i64 x.c, .int .i64 x.n, .int .u64 (x.k : Int)])).run Tryz.prog w = .ok true w := by
  have u3 := Tryz.underlying3
  have a3 := Tryz.isAgg3
  have z3 := Tryz.sizeOf3
  have u9 := Tryz.underlying27
  have a9 := Tryz.isAgg27
  have z9 := Tryz.sizeOf27
  have hS : Tryz.prog.underlying 71 = some (.struct (Tryz.prog.fieldsOf 71)) := by kernel_rfl
  have hp : Tryz.prog.stoodInHeld 71 = false := by kernel_rfl
  rw [show (10000 : Nat) = 9999 + 1 from rfl, run_equalIn_agg w 9999 71 _ _ hS hp]
  simp only [Program.fieldsOf, Tryz.underlying71]
  go_simp
theorem neqI_self (x : In) (w : World) : (binOp .neq 71 (.agg #[.int .i64 x.op, .int .i64 x.a, .int .i64 x.b, .int .i64 x.c, .int .i64 x.n, .int .u64 (x.k : Int)]) (.agg #[.int .i64 x.op, .int .i64 x.a, .int .i64 x.b, .int .i64 x.c, .int .i64 x.n, .int .u64 (x.k : Int)])).run Tryz.prog w = .ok (.bool false) w := by
  rw [run_neq_struct, eqI_self]
  rfl
end Go.Proofs.YtpgehocadohkiaaGreatDoor
end

section
namespace Go.Proofs.YtpgehocadohkiaaGreatDoor
open Go.RowKit Go.Shelf

namespace Pg
def words : List ByteArray := [⟨#[]⟩, ⟨#[115, 101, 116]⟩, ⟨#[109, 111, 118, 101]⟩, ⟨#[97, 100, 100]⟩, ⟨#[115, 117, 98]⟩, ⟨#[109, 117, 108]⟩, ⟨#[100, 105, 118]⟩, ⟨#[109, 105, 110]⟩, ⟨#[109, 97, 120]⟩, ⟨#[108, 101, 115, 115]⟩, ⟨#[111, 114, 100, 101, 114]⟩, ⟨#[110, 101, 103]⟩, ⟨#[97, 98, 115]⟩, ⟨#[102, 108, 111, 111, 114]⟩, ⟨#[106, 117, 109, 112]⟩, ⟨#[105, 102]⟩, ⟨#[103, 111, 116, 111]⟩, ⟨#[99, 97, 108, 108]⟩, ⟨#[114, 101, 116]⟩, ⟨#[112, 117, 115, 104]⟩, ⟨#[112, 111, 112]⟩, ⟨#[101, 109, 105, 116]⟩, ⟨#[119, 114, 105, 116, 101]⟩, ⟨#[102, 97, 105, 108]⟩, ⟨#[104, 97, 108, 116]⟩]
def wordP (op : Int) : ByteArray := if op < 0 ∨ 25 ≤ op then ⟨#[]⟩ else words[op.toNat]!
def hasP (op : Int) : Nat × Bool × Bool := if op = 1 then (1, false, true) else if op = 2 ∨ op = 11 ∨ op = 12 ∨ op = 13 then (2, false, false) else if op = 3 ∨ op = 4 ∨ op = 5 ∨ op = 6 ∨ op = 7 ∨ op = 8 ∨ op = 9 ∨ op = 10 then (3, false, false) else if op = 14 ∨ op = 17 then (0, true, false) else if op = 15 then (1, true, false) else if op = 16 ∨ op = 19 ∨ op = 20 ∨ op = 21 ∨ op = 22 ∨ op = 23 then (1, false, false) else (0, false, false)
end Pg
theorem words_cell (w : World) : ∀ j, j < 25 → (w.alloc (.cells (Pg.words.map Value.string).toArray 9)).cell? ⟨w.heap.size, j, none⟩ = some (.string Pg.words[j]!) := by
  intro j hj
  rw [World.cell?_alloc_at _ _ _ _ rfl]
  show (Pg.words.map Value.string).toArray[j]? = _
  rw [List.getElem?_toArray, List.getElem?_map, List.getElem?_eq_getElem (show j < Pg.words.length from hj), getElem!_pos Pg.words j hj]
  rfl
end Go.Proofs.YtpgehocadohkiaaGreatDoor
end

section
namespace Go.Proofs.YtpgehocadohkiaaGreatDoor
open Go.RowKit Go.Shelf

namespace Pg
def regE (r i : Nat) (v : Int) : Int := if r ≤ i then (if v ≠ 0 then 54 else 0) else if v < 0 ∨ 7 < v then 52 else 0
def nE (nb : Bool) (n : Int) (many : Nat) : Int := if nb then (if n < 0 ∨ (many : Int) < n then 53 else 0) else if n ≠ 0 then 54 else 0
def kE (kb : Bool) (k : Nat) : Int := if kb then (if Gn.canonW k ≠ k then 54 else 0) else if k ≠ 0 then 54 else 0
def abc (x : In) (i : Nat) : Int := if i = 0 then x.a else if i = 1 then x.b else x.c
def regsE (r : Nat) (x : In) : List Nat → Int
  | [] => 0
  | i :: t => if regE r i (abc x i) ≠ 0 then regE r i (abc x i) else regsE r x t
def wrongP (h : Nat × Bool × Bool) (x : In) (many : Nat) : Int := if regsE h.1 x [0, 1, 2] ≠ 0 then regsE h.1 x [0, 1, 2] else if nE h.2.1 x.n many ≠ 0 then nE h.2.1 x.n many else kE h.2.2 x.k
end Pg
theorem regs_step (r : Nat) (x : In) : ∀ i, i < 3 → Pg.regsE r x (([0, 1, 2] : List Nat).drop i) = if Pg.regE r i (Pg.abc x i) ≠ 0 then Pg.regE r i (Pg.abc x i) else Pg.regsE r x (([0, 1, 2] : List Nat).drop (i + 1))
  | 0, _ => rfl
  | 1, _ => rfl
  | 2, _ => rfl
  | i + 3, h => by omega
end Go.Proofs.YtpgehocadohkiaaGreatDoor
end

section
namespace Go.Proofs.YtpgehocadohkiaaGreatDoor
open Go.RowKit Go.Shelf

theorem un_of (v : Int) (h : -9223372036854775808 ≤ v ∧ v ≤ 9223372036854775807) : (0 ≤ v → (Pg.un v : Int) = v) ∧ (v < 0 → 9223372036854775808 ≤ Pg.un v) := by
  unfold Pg.un
  constructor
  · intro h0; omega
  · intro h0; omega
theorem named_reg (v : Int) (h : -9223372036854775808 ≤ v ∧ v ≤ 9223372036854775807) (l many : Nat) (h1 : l ≠ 75) (h2 : l ≠ 78) : Pg.namedE (Pg.un v) l many = if v < 0 ∨ 7 < v then 52 else 0 := by
  have := un_of v h
  unfold Pg.namedE
  rw [if_neg h1, if_neg h2]
  by_cases h0 : v < 0
  · rw [if_pos (by have := this.2 h0; omega), if_pos (.inl h0)]
  · have h3 := this.1 (by omega)
    by_cases h7 : 7 < v
    · rw [if_pos (by omega), if_pos (.inr h7)]
    · rw [if_neg (by omega), if_neg (by omega)]
theorem unnamed_reg (v : Int) (h : -9223372036854775808 ≤ v ∧ v ≤ 9223372036854775807) : Pg.unnamedE (Pg.un v) = if v ≠ 0 then 54 else 0 := by
  have := un_of v h
  unfold Pg.unnamedE
  by_cases h0 : v = 0
  · subst h0; rfl
  · rw [if_pos h0]
    refine if_pos ?_
    by_cases h1 : v < 0
    · have := this.2 h1; omega
    · have := this.1 (by omega); omega
theorem named_n (v : Int) (h : -9223372036854775808 ≤ v ∧ v ≤ 9223372036854775807) (many : Nat) (hm : many ≤ 64) : Pg.namedE (Pg.un v) 78 many = if v < 0 ∨ (many : Int) < v then 53 else 0 := by
  have := un_of v h
  unfold Pg.namedE
  rw [if_neg (by decide), if_pos rfl]
  by_cases h0 : v < 0
  · rw [if_pos (by have := this.2 h0; omega), if_pos (.inl h0)]
  · have h3 := this.1 (by omega)
    by_cases h7 : (many : Int) < v
    · rw [if_pos (by omega), if_pos (.inr h7)]
    · rw [if_neg (by omega), if_neg (by omega)]
theorem field_reg (fs : ByteArray) (x : In) (many l i r : Nat) (v : Int) (hg : Pg.get x l = Pg.un v) (hv : -9223372036854775808 ≤ v ∧ v ≤ 9223372036854775807) (h1 : l ≠ 75) (h2 : l ≠ 78) (hh : Pg.has fs l = decide (i < r)) : Pg.fieldE fs x many l = Pg.regE r i v := by
  unfold Pg.fieldE Pg.regE
  rw [hg, hh]
  by_cases hr : r ≤ i
  · rw [decide_eq_false (by omega), if_pos hr]
    exact unnamed_reg v hv
  · rw [decide_eq_true (by omega), if_neg hr]
    exact named_reg v hv l many h1 h2
theorem insE_of (fs : ByteArray) (x : In) (hx : x.Fits) (many : Nat) (hm : many ≤ 64) (r : Nat) (nb kb : Bool) (hA : Pg.has fs 65 = decide (0 < r)) (hB : Pg.has fs 66 = decide (1 < r)) (hC : Pg.has fs 67 = decide (2 < r)) (hN : Pg.has fs 78 = nb) (hK : Pg.has fs 75 = kb) :
    Pg.firstE fs x many [65, 66, 67, 78, 75] = Pg.wrongP (r, nb, kb) x many := by
  have eA := field_reg fs x many 65 0 r x.a rfl hx.a (by decide) (by decide) hA
  have eB := field_reg fs x many 66 1 r x.b rfl hx.b (by decide) (by decide) hB
  have eC := field_reg fs x many 67 2 r x.c rfl hx.c (by decide) (by decide) hC
  have eN : Pg.fieldE fs x many 78 = Pg.nE nb x.n many := by
    unfold Pg.fieldE Pg.nE
    rw [hN, show Pg.get x 78 = Pg.un x.n from rfl]
    cases nb with
    | true => exact named_n x.n hx.n many hm
    | false => exact unnamed_reg x.n hx.n
  have eK : Pg.fieldE fs x many 75 = Pg.kE kb x.k := by
    unfold Pg.fieldE Pg.kE
    rw [hK, show Pg.get x 75 = x.k from rfl]
    cases kb <;> rfl
  have hF : Pg.firstE fs x many [65, 66, 67, 78, 75] = if Pg.fieldE fs x many 65 ≠ 0 then Pg.fieldE fs x many 65 else if Pg.fieldE fs x many 66 ≠ 0 then Pg.fieldE fs x many 66 else if Pg.fieldE fs x many 67 ≠ 0 then Pg.fieldE fs x many 67 else if Pg.fieldE fs x many 78 ≠ 0 then Pg.fieldE fs x many 78 else if Pg.fieldE fs x many 75 ≠ 0 then Pg.fieldE fs x many 75 else 0 := rfl
  have hG : Pg.regsE r x [0, 1, 2] = if Pg.regE r 0 x.a ≠ 0 then Pg.regE r 0 x.a else if Pg.regE r 1 x.b ≠ 0 then Pg.regE r 1 x.b else if Pg.regE r 2 x.c ≠ 0 then Pg.regE r 2 x.c else 0 := rfl
  unfold Pg.wrongP
  rw [hF, hG, eA, eB, eC, eN, eK]
  generalize Pg.regE r 0 x.a = a
  generalize Pg.regE r 1 x.b = b
  generalize Pg.regE r 2 x.c = c
  generalize Pg.kE kb x.k = k
  generalize Pg.nE nb x.n many = n
  by_cases ha : a = 0
  · by_cases hb : b = 0
    · by_cases hc : c = 0
      · by_cases hn : n = 0
        · by_cases hk : k = 0 <;> simp [ha, hb, hc, hn, hk]
        · simp [ha, hb, hc, hn]
      · simp [ha, hb, hc]
    · simp [ha, hb]
  · simp [ha]
theorem shape_none (op : Int) (h : ¬ (1 ≤ op ∧ op ≤ 24)) : (Pg.shape op).2 = false := by
  unfold Pg.shape Pg.find
  have : Pg.tbl.findIdx? (fun s => s.op == op) = none := by
    rw [List.findIdx?_eq_none_iff]
    intro s hs
    have : ∀ s ∈ Pg.tbl, 1 ≤ s.op ∧ s.op ≤ 24 := by
      intro s hs
      have h1 : Pg.tbl.all (fun s => decide (1 ≤ s.op ∧ s.op ≤ 24)) = true := by decide
      simpa using List.all_eq_true.1 h1 s hs
    have := this s hs
    rw [beq_eq_false_iff_ne]
    omega
  rw [this]
theorem insE_ref (x : In) (hx : x.Fits) (many : Nat) (hm : many ≤ 64) : Pg.insE x many = if (Pg.wordP x.op).toList = [] then 51 else Pg.wrongP (Pg.hasP x.op) x many := by
  unfold Pg.insE
  by_cases h : 1 ≤ x.op ∧ x.op ≤ 24
  · have hc : ∃ n : Fin 24, x.op = ((n.val + 1 : Nat) : Int) := ⟨⟨x.op.toNat - 1, by omega⟩, by show x.op = ((x.op.toNat - 1 + 1 : Nat) : Int); omega⟩
    obtain ⟨n, hn⟩ := hc
    have hall : ∀ n : Fin 24, (Pg.shape ((n.val + 1 : Nat) : Int)).2 = true ∧ (Pg.wordP ((n.val + 1 : Nat) : Int)).size ≠ 0 ∧ Pg.has (Pg.shape ((n.val + 1 : Nat) : Int)).1.flds 65 = decide (0 < (Pg.hasP ((n.val + 1 : Nat) : Int)).1) ∧ Pg.has (Pg.shape ((n.val + 1 : Nat) : Int)).1.flds 66 = decide (1 < (Pg.hasP ((n.val + 1 : Nat) : Int)).1) ∧ Pg.has (Pg.shape ((n.val + 1 : Nat) : Int)).1.flds 67 = decide (2 < (Pg.hasP ((n.val + 1 : Nat) : Int)).1) ∧ Pg.has (Pg.shape ((n.val + 1 : Nat) : Int)).1.flds 78 = (Pg.hasP ((n.val + 1 : Nat) : Int)).2.1 ∧ Pg.has (Pg.shape ((n.val + 1 : Nat) : Int)).1.flds 75 = (Pg.hasP ((n.val + 1 : Nat) : Int)).2.2 := by decide
    obtain ⟨h1, h2, h3, h4, h5, h6, h7⟩ := hall n
    rw [← hn] at h1 h2 h3 h4 h5 h6 h7
    rw [if_neg (by rw [h1]; simp), if_neg (fun e => h2 (by have := congrArg List.length e; rwa [size_list] at this))]
    exact insE_of _ x hx many hm _ _ _ h3 h4 h5 h6 h7
  · rw [if_pos (shape_none x.op h)]
    have : Pg.wordP x.op = ⟨#[]⟩ := by
      unfold Pg.wordP
      by_cases h0 : x.op < 0 ∨ 25 ≤ x.op
      · rw [if_pos h0]
      · rw [if_neg h0, show x.op = 0 by omega]; rfl
    rw [this, if_pos (by rw [ByteArray.toList_eq])]
end Go.Proofs.YtpgehocadohkiaaGreatDoor
end

section
namespace Go.Proofs.YtpgehocadohkiaaGreatDoor
open Go.RowKit Go.Shelf

end Go.Proofs.YtpgehocadohkiaaGreatDoor
end

section
namespace Go.Proofs.YtpgehocadohkiaaGreatDoor
open Go.RowKit Go.Shelf

theorem big8_bc (n : Nat) (hn : n < 18446744073709551616) : bc (Pk.big8 n) = [.int .u8 ((n : Int) / 72057594037927936), .int .u8 ((n : Int) / 281474976710656 % 256), .int .u8 ((n : Int) / 1099511627776 % 256), .int .u8 ((n : Int) / 4294967296 % 256), .int .u8 ((n : Int) / 16777216 % 256), .int .u8 ((n : Int) / 65536 % 256), .int .u8 ((n : Int) / 256 % 256), .int .u8 ((n : Int) % 256)] := by
  have e : ∀ x : Nat, (UInt8.ofNat (x % 256)).toNat = x % 256 := fun x => Pk.toNat_ofNat (Nat.mod_lt _ (by decide))
  simp only [bc, Pk.big8, List.map_cons, List.map_nil, e]
  have e0 : ((n / 72057594037927936 % 256 : Nat) : Int) = (n : Int) / 72057594037927936 := by omega
  rw [e0]
  rfl

namespace Pg
def fl (h : Nat × Bool × Bool) : List UInt8 := ([65, 66, 67] : List UInt8).take h.1 ++ ((if h.2.1 then [78] else []) ++ (if h.2.2 then [75] else []))
end Pg
theorem fl_all : ∀ n : Fin 24, (Pg.shape ((n.val + 1 : Nat) : Int)).1.flds.data.toList = Pg.fl (Pg.hasP ((n.val + 1 : Nat) : Int)) ∧ (Pg.shape ((n.val + 1 : Nat) : Int)).1.word = Pg.wordP ((n.val + 1 : Nat) : Int) ∧ (Pg.hasP ((n.val + 1 : Nat) : Int)).1 ≤ 3 := by decide
theorem goE_zero (many : Nat) : ∀ (xs : List In) (i : Nat), (Pg.goE many xs i).1 = 0 → ∀ x ∈ xs, Pg.insE x many = 0
  | [], _, _ => by intro x hx; cases hx
  | x :: r, i, h => by
    unfold Pg.goE at h
    by_cases hx : Pg.insE x many = 0
    · rw [if_neg (by simp [hx])] at h
      intro y hy
      rcases List.mem_cons.1 hy with rfl | hy
      · exact hx
      · exact goE_zero many r (i + 1) h y hy
    · rw [if_pos hx] at h
      exact absurd h hx
theorem check_ins (f : Int) (xs : List In) (h : (Pg.checkE f xs).1 = 0) : ∀ x ∈ xs, Pg.insE x xs.length = 0 := by
  unfold Pg.checkE at h
  split at h
  · cases h
  split at h
  · cases h
  exact goE_zero _ _ _ h
theorem ins_op (x : In) (many : Nat) (h : Pg.insE x many = 0) : ∃ n : Fin 24, x.op = ((n.val + 1 : Nat) : Int) := by
  by_cases h1 : 1 ≤ x.op ∧ x.op ≤ 24
  · exact ⟨⟨x.op.toNat - 1, by omega⟩, by show x.op = ((x.op.toNat - 1 + 1 : Nat) : Int); omega⟩
  · unfold Pg.insE at h
    rw [if_pos (shape_none x.op h1)] at h
    cases h
theorem ins_fl (x : In) (many : Nat) (h : Pg.insE x many = 0) : (Pg.shape x.op).1.flds.data.toList = Pg.fl (Pg.hasP x.op) ∧ (Pg.shape x.op).1.word = Pg.wordP x.op ∧ (Pg.hasP x.op).1 ≤ 3 := by
  obtain ⟨n, hn⟩ := ins_op x many h
  rw [hn]; exact fl_all n
theorem goB_app (x : In) : ∀ (l m : List UInt8) (acc : ByteArray), Pg.goB x (l ++ m) acc = Pg.goB x m (Pg.goB x l acc)
  | [], _, _ => rfl
  | _ :: r, m, _ => goB_app x r m _
theorem goB_pre (x : In) : ∀ (l : List UInt8) (b acc : ByteArray), Pg.goB x l (b ++ acc) = b ++ Pg.goB x l acc
  | [], _, _ => rfl
  | c :: r, b, acc => by unfold Pg.goB; rw [ByteArray.append_assoc]; exact goB_pre x r b _
theorem goB_take (x : In) (j : Nat) (hj : j < 3) (acc : ByteArray) : Pg.goB x (([65, 66, 67] : List UInt8).take (j + 1)) acc = Pg.goB x (([65, 66, 67] : List UInt8).take j) acc ++ ⟨(Pk.enc (Pg.un (Pg.abc x j))).toArray⟩ := by
  match j, hj with
  | 0, _ => rfl
  | 1, _ => rfl
  | 2, _ => rfl
end Go.Proofs.YtpgehocadohkiaaGreatDoor
end

section
namespace Go.Proofs.YtpgehocadohkiaaGreatDoor
open Go.RowKit Go.Shelf

theorem Pk.fold8_big8' (n : Nat) (h : n < 18446744073709551616) : Pk.fold8 (Pk.big8 n) = n := by
  have e : ∀ x : Nat, (UInt8.ofNat (x % 256)).toNat = x % 256 := fun x => Pk.toNat_ofNat (Nat.mod_lt _ (by decide))
  simp only [Pk.fold8, Pk.big8, List.foldl_cons, List.foldl_nil, e]
  omega
theorem rest_app {b : ByteArray} {p : Nat} {l r : List UInt8} (h : rest b p = l ++ r) : rest b (p + l.length) = r := by
  unfold rest at *
  rw [← List.drop_drop, h, List.drop_left]
theorem num_at {b : ByteArray} {p n most : Nat} {r : List UInt8} (h : rest b p = Pk.enc n ++ r) (hn : n ≤ most) (hm : n < 18446744073709551616) : ∃ q, Pg.numS b most (p, 0) = (n, (q, 0)) ∧ rest b q = r := by
  have hd : Pk.dec 0 0 (rest b p) = (0, n, (Pk.enc n).length) := by rw [h, Pk.dec_enc n 0 0 r (by decide) (by simpa using hm) (.inl rfl)]; simp
  refine ⟨p + (Pk.enc n).length, ?_, rest_app h⟩
  unfold Pg.numS
  rw [if_neg (by simp), if_pos (numK_ok hd hn)]
  unfold numV numQ
  rw [hd]
theorem list_at {b : ByteArray} {p n most : Nat} {r : List UInt8} (h : rest b p = Pk.enc n ++ r) (hn : n ≤ most) (hm : n < 18446744073709551616) : ∃ q, Pg.listS b most (p, 0) = (n, (q, 0)) ∧ rest b q = r := by
  have hd : Pk.dec 0 0 (rest b p) = (0, n, (Pk.enc n).length) := by rw [h, Pk.dec_enc n 0 0 r (by decide) (by simpa using hm) (.inl rfl)]; simp
  refine ⟨p + (Pk.enc n).length, ?_, rest_app h⟩
  unfold Pg.listS
  rw [if_neg (by simp), if_pos (numK_ok hd hn)]
  unfold numV numQ
  rw [hd]
theorem bits_at {b : ByteArray} {p k : Nat} {r : List UInt8} (h : rest b p = Pk.big8 k ++ r) (hk : k < 18446744073709551616) : ∃ q, Pg.bitsS b (p, 0) = (k, (q, 0)) ∧ rest b q = r := by
  have h8 : (Pk.big8 k).length = 8 := rfl
  refine ⟨p + 8, ?_, by have := rest_app h; rwa [h8] at this⟩
  have hz : p + 8 ≤ b.size := by
    have h1 := rest_len b p
    rw [h, List.length_append, h8] at h1
    omega
  unfold Pg.bitsS
  rw [if_neg (by simp), if_pos (by unfold bitsK; rw [if_neg (by omega)])]
  unfold bitsV
  rw [h, List.take_left' h8, Pk.fold8_big8' k hk]
namespace Pg
/-- the bytes of the fields that are named -/
def fbs (x : In) (l : List UInt8) : List UInt8 := l.flatMap fun c => (fieldB x c.toNat).data.toList
def sets (x : In) (l : List UInt8) (y : In) : In := l.foldl (fun y c => setF y c.toNat (get x c.toNat)) y
end Pg
theorem goB_list (x : In) : ∀ (l : List UInt8) (acc : ByteArray), (Pg.goB x l acc).data.toList = acc.data.toList ++ Pg.fbs x l
  | [], acc => by unfold Pg.goB Pg.fbs; simp
  | c :: r, acc => by
    unfold Pg.goB
    rw [goB_list x r, ByteArray.data_append, Array.toList_append]
    unfold Pg.fbs
    rw [List.flatMap_cons, List.append_assoc]
theorem flds_at {b : ByteArray} (x : In) (hk : x.k < 18446744073709551616) : ∀ (l : List UInt8) (y : In) (p : Nat) (r : List UInt8), (∀ c ∈ l, c.toNat ≠ 75 → Pg.get x c.toNat ≤ 64) → rest b p = Pg.fbs x l ++ r → ∃ q, Pg.fldsS b l (y, (p, 0)) = (Pg.sets x l y, (q, 0)) ∧ rest b q = r
  | [], y, p, r, _, h => ⟨p, rfl, h⟩
  | c :: t, y, p, r, hok, h => by
    have e : Pg.fbs x (c :: t) = (Pg.fieldB x c.toNat).data.toList ++ Pg.fbs x t := rfl
    rw [e, List.append_assoc] at h
    have hf : ∃ q, Pg.fldS b y c.toNat (p, 0) = (Pg.setF y c.toNat (Pg.get x c.toNat), (q, 0)) ∧ rest b q = Pg.fbs x t ++ r := by
      by_cases h75 : c.toNat = 75
      · have h2 : rest b p = Pk.big8 x.k ++ (Pg.fbs x t ++ r) := by rw [h]; unfold Pg.fieldB; rw [if_pos h75]
        obtain ⟨q, hq, hr⟩ := bits_at h2 hk
        refine ⟨q, ?_, hr⟩
        unfold Pg.fldS
        rw [if_pos h75, hq, h75]
        rfl
      · have h1 := hok c (by simp) h75
        have h2 : rest b p = Pk.enc (Pg.get x c.toNat) ++ (Pg.fbs x t ++ r) := by rw [h]; unfold Pg.fieldB; rw [if_neg h75]
        obtain ⟨q, hq, hr⟩ := num_at h2 h1 (by omega)
        refine ⟨q, ?_, hr⟩
        unfold Pg.fldS
        rw [if_neg h75, hq]
    obtain ⟨q, hq, hr⟩ := hf
    obtain ⟨q2, hq2, hr2⟩ := flds_at x hk t (Pg.setF y c.toNat (Pg.get x c.toNat)) q r (fun d hd => hok d (by simp [hd])) hr
    refine ⟨q2, ?_, hr2⟩
    unfold Pg.fldsS
    rw [hq]
    exact hq2
theorem wrong_zero {h : Nat × Bool × Bool} {x : In} {many : Nat} (e : Pg.wrongP h x many = 0) : Pg.regE h.1 0 x.a = 0 ∧ Pg.regE h.1 1 x.b = 0 ∧ Pg.regE h.1 2 x.c = 0 ∧ Pg.nE h.2.1 x.n many = 0 ∧ Pg.kE h.2.2 x.k = 0 := by
  unfold Pg.wrongP at e
  by_cases h1 : Pg.regsE h.1 x [0, 1, 2] = 0
  · rw [if_neg (by simp [h1])] at e
    by_cases h2 : Pg.nE h.2.1 x.n many = 0
    · rw [if_neg (by simp [h2])] at e
      have hG : Pg.regsE h.1 x [0, 1, 2] = if Pg.regE h.1 0 x.a ≠ 0 then Pg.regE h.1 0 x.a else if Pg.regE h.1 1 x.b ≠ 0 then Pg.regE h.1 1 x.b else if Pg.regE h.1 2 x.c ≠ 0 then Pg.regE h.1 2 x.c else 0 := rfl
      rw [hG] at h1
      by_cases ha : Pg.regE h.1 0 x.a = 0
      · rw [if_neg (by simp [ha])] at h1
        by_cases hb : Pg.regE h.1 1 x.b = 0
        · rw [if_neg (by simp [hb])] at h1
          by_cases hc : Pg.regE h.1 2 x.c = 0
          · exact ⟨ha, hb, hc, h2, e⟩
          · rw [if_pos hc] at h1; exact absurd h1 hc
        · rw [if_pos hb] at h1; exact absurd h1 hb
      · rw [if_pos ha] at h1; exact absurd h1 ha
    · rw [if_pos h2] at e; exact absurd e h2
  · rw [if_pos h1] at e; exact absurd e h1
theorem reg_ok {r i : Nat} {v : Int} (h : Pg.regE r i v = 0) : 0 ≤ v ∧ v ≤ 7 ∧ (r ≤ i → v = 0) := by
  unfold Pg.regE at h
  by_cases hr : r ≤ i
  · rw [if_pos hr] at h
    by_cases hv : v = 0
    · exact ⟨by omega, by omega, fun _ => hv⟩
    · rw [if_pos hv] at h; cases h
  · rw [if_neg hr] at h
    by_cases hv : v < 0 ∨ 7 < v
    · rw [if_pos hv] at h; cases h
    · exact ⟨by omega, by omega, fun k => absurd k hr⟩
theorem n_ok {nb : Bool} {v : Int} {many : Nat} (h : Pg.nE nb v many = 0) : 0 ≤ v ∧ v ≤ many ∧ (nb = false → v = 0) := by
  unfold Pg.nE at h
  cases nb with
  | true =>
    rw [if_pos rfl] at h
    by_cases hv : v < 0 ∨ (many : Int) < v
    · rw [if_pos hv] at h; cases h
    · exact ⟨by omega, by omega, fun k => by cases k⟩
  | false =>
    rw [if_neg (by simp)] at h
    by_cases hv : v = 0
    · exact ⟨by omega, by omega, fun _ => hv⟩
    · rw [if_pos hv] at h; cases h
theorem k_ok {kb : Bool} {k : Nat} (h : Pg.kE kb k = 0) : kb = false → k = 0 := by
  unfold Pg.kE at h
  rintro rfl
  rw [if_neg (by simp)] at h
  by_cases hv : k = 0
  · exact hv
  · rw [if_pos hv] at h; cases h
structure Ok (x : In) (many : Nat) : Prop where
  op : 1 ≤ x.op ∧ x.op ≤ 24
  a : 0 ≤ x.a ∧ x.a ≤ 7 ∧ ((Pg.hasP x.op).1 ≤ 0 → x.a = 0)
  b : 0 ≤ x.b ∧ x.b ≤ 7 ∧ ((Pg.hasP x.op).1 ≤ 1 → x.b = 0)
  c : 0 ≤ x.c ∧ x.c ≤ 7 ∧ ((Pg.hasP x.op).1 ≤ 2 → x.c = 0)
  n : 0 ≤ x.n ∧ x.n ≤ many ∧ ((Pg.hasP x.op).2.1 = false → x.n = 0)
  k : (Pg.hasP x.op).2.2 = false → x.k = 0
theorem ins_ok {x : In} (hx : x.Fits) {many : Nat} (hm : many ≤ 64) (h : Pg.insE x many = 0) : Ok x many := by
  obtain ⟨n, hn⟩ := ins_op x many h
  rw [insE_ref x hx many hm] at h
  by_cases hw : (Pg.wordP x.op).toList = []
  · rw [if_pos hw] at h; cases h
  rw [if_neg hw] at h
  obtain ⟨h1, h2, h3, h4, h5⟩ := wrong_zero h
  exact ⟨by have := n.isLt; omega, reg_ok h1, reg_ok h2, reg_ok h3, n_ok h4, k_ok h5⟩
theorem un_id {v : Int} (h : 0 ≤ v) (h2 : v ≤ 1024) : (Pg.un v : Int) = v := by unfold Pg.un; omega
theorem sets_ok {x : In} {many : Nat} (hm : many ≤ 64) (h : Ok x many) (h3 : (Pg.hasP x.op).1 ≤ 3) : Pg.sets x (Pg.fl (Pg.hasP x.op)) ⟨x.op, 0, 0, 0, 0, 0⟩ = x := by
  obtain ⟨hop, ha, hb, hc, hn, hk⟩ := h
  have ea := un_id ha.1 (by omega)
  have eb := un_id hb.1 (by omega)
  have ec := un_id hc.1 (by omega)
  have en := un_id hn.1 (by omega)
  generalize Pg.hasP x.op = hp at *
  obtain ⟨r, nb, kb⟩ := hp
  obtain ⟨op, a, b, c, n, k⟩ := x
  simp only at *
  match r, h3 with
  | 0, _ =>
    have := ha.2.2 (by omega); have := hb.2.2 (by omega); have := hc.2.2 (by omega)
    cases nb <;> cases kb <;> simp_all [Pg.sets, Pg.fl, Pg.setF, Pg.get]
  | 1, _ =>
    have := hb.2.2 (by omega); have := hc.2.2 (by omega)
    cases nb <;> cases kb <;> simp_all [Pg.sets, Pg.fl, Pg.setF, Pg.get]
  | 2, _ =>
    have := hc.2.2 (by omega)
    cases nb <;> cases kb <;> simp_all [Pg.sets, Pg.fl, Pg.setF, Pg.get]
  | 3, _ =>
    cases nb <;> cases kb <;> simp_all [Pg.sets, Pg.fl, Pg.setF, Pg.get]
theorem get_ok {x : In} {many : Nat} (hm : many ≤ 64) (h : Ok x many) (l : Nat) (hl : l ≠ 75) (hl2 : l = 65 ∨ l = 66 ∨ l = 67 ∨ l = 78) : Pg.get x l ≤ 64 := by
  have ea := un_id h.a.1 (by have := h.a; omega)
  have eb := un_id h.b.1 (by have := h.b; omega)
  have ec := un_id h.c.1 (by have := h.c; omega)
  have en := un_id h.n.1 (by have := h.n; omega)
  have := h.a; have := h.b; have := h.c; have := h.n
  rcases hl2 with rfl | rfl | rfl | rfl
  · show Pg.un x.a ≤ 64; omega
  · show Pg.un x.b ≤ 64; omega
  · show Pg.un x.c ≤ 64; omega
  · show Pg.un x.n ≤ 64; omega
theorem fl_mem {hp : Nat × Bool × Bool} {c : UInt8} (h : c ∈ Pg.fl hp) : c = 65 ∨ c = 66 ∨ c = 67 ∨ c = 78 ∨ c = 75 := by
  obtain ⟨r, nb, kb⟩ := hp
  unfold Pg.fl at h
  rcases List.mem_append.1 h with h | h
  · have := List.mem_of_mem_take h
    simp at this
    rcases this with h | h | h <;> simp [h]
  · cases nb <;> cases kb <;> simp at h
    · simp [h]
    · simp [h]
    · rcases h with h | h <;> simp [h]
theorem ins_at {b : ByteArray} {p many : Nat} {r : List UInt8} {x : In} (hx : x.Fits) (hm : many ≤ 64) (h : Pg.insE x many = 0) (hr : rest b p = (Pg.insB x).data.toList ++ r) : ∃ q, Pg.insS b (p, 0) = (x, (q, 0)) ∧ rest b q = r := by
  have hok := ins_ok hx hm h
  obtain ⟨hf, _, h3⟩ := ins_fl x many h
  have hu := un_id (v := x.op) (by have := hok.op; omega) (by have := hok.op; omega)
  unfold Pg.insB at hr
  rw [hf, goB_list, List.append_assoc] at hr
  obtain ⟨q, hq, hr2⟩ := num_at (most := 64) hr (by have := hok.op; omega) (un_lt _)
  obtain ⟨q2, hq2, hr3⟩ := flds_at x hx.k (Pg.fl (Pg.hasP x.op)) ⟨x.op, 0, 0, 0, 0, 0⟩ q r (fun c hc h75 => get_ok hm hok c.toNat h75 (by
    rcases fl_mem hc with rfl | rfl | rfl | rfl | rfl
    · exact .inl rfl
    · exact .inr (.inl rfl)
    · exact .inr (.inr (.inl rfl))
    · exact .inr (.inr (.inr rfl))
    · exact absurd rfl h75)) hr2
  refine ⟨q2, ?_, hr3⟩
  unfold Pg.insS
  rw [hq, hu, hf, hq2, sets_ok hm hok h3]
theorem many_at {b : ByteArray} {many : Nat} (hm : many ≤ 64) : ∀ (xs : List In) (p : Nat) (r : List UInt8) (acc : List In), (∀ x ∈ xs, x.Fits) → (∀ x ∈ xs, Pg.insE x many = 0) → rest b p = (xs.flatMap fun x => (Pg.insB x).data.toList) ++ r → ∃ q, Pg.manyS b xs.length (p, 0) acc = (acc ++ xs, (q, 0)) ∧ rest b q = r
  | [], p, r, acc, _, _, h => ⟨p, by rw [List.append_nil]; rfl, h⟩
  | x :: t, p, r, acc, hx, hi, h => by
    rw [List.flatMap_cons, List.append_assoc] at h
    obtain ⟨q, hq, hr⟩ := ins_at (hx x (by simp)) hm (hi x (by simp)) h
    obtain ⟨q2, hq2, hr2⟩ := many_at hm t q r (acc ++ [x]) (fun y hy => hx y (by simp [hy])) (fun y hy => hi y (by simp [hy])) hr
    refine ⟨q2, ?_, hr2⟩
    show Pg.manyS b t.length (Pg.insS b (p, 0)).2 (acc ++ [(Pg.insS b (p, 0)).1]) = _
    rw [hq, hq2, List.append_assoc]
    rfl
theorem allB_flat : ∀ (xs : List In) (acc : List UInt8), Pg.allB xs acc = acc ++ xs.flatMap fun x => (Pg.insB x).data.toList
  | [], acc => by unfold Pg.allB; simp
  | x :: r, acc => by unfold Pg.allB; rw [allB_flat r, List.flatMap_cons, List.append_assoc]
end Go.Proofs.YtpgehocadohkiaaGreatDoor
end

section
namespace Go.Proofs.YtpgehocadohkiaaGreatDoor
open Go.RowKit Go.Shelf

theorem enc_one {n : Nat} (h : n < 128) : (Pk.enc n).length = 1 := by rw [Pk.enc_lt h]; rfl
theorem enc_two {n : Nat} (h : n ≤ 1024) : (Pk.enc n).length ≤ 2 := by
  by_cases h1 : n < 128
  · rw [enc_one h1]; decide
  · rw [Pk.enc_ge h1, List.length_cons, enc_one (by omega)]; decide
theorem fbs_len {x : In} {many : Nat} (hm : many ≤ 64) (h : Ok x many) : ∀ l : List UInt8, (∀ c ∈ l, c = 65 ∨ c = 66 ∨ c = 67 ∨ c = 78 ∨ c = 75) → (Pg.fbs x l).length ≤ 8 * l.length
  | [], _ => Nat.zero_le _
  | c :: r, hl => by
    have e : Pg.fbs x (c :: r) = (Pg.fieldB x c.toNat).data.toList ++ Pg.fbs x r := rfl
    have h1 := fbs_len hm h r (fun d hd => hl d (by simp [hd]))
    have h2 : (Pg.fieldB x c.toNat).data.toList.length ≤ 8 := by
      unfold Pg.fieldB
      by_cases h75 : c.toNat = 75
      · rw [if_pos h75]; exact Nat.le_refl 8
      · rw [if_neg h75]
        have h3 := get_ok hm h c.toNat h75 (by
          rcases hl c (by simp) with rfl | rfl | rfl | rfl | rfl
          · exact .inl rfl
          · exact .inr (.inl rfl)
          · exact .inr (.inr (.inl rfl))
          · exact .inr (.inr (.inr rfl))
          · exact absurd rfl h75)
        show (Pk.enc (Pg.get x c.toNat)).toArray.toList.length ≤ 8
        rw [List.toList_toArray, enc_one (by omega)]
        decide
    rw [e, List.length_append, List.length_cons]
    omega
theorem has_kinds (op : Int) : Pg.hasP op = (1, false, true) ∨ ((Pg.hasP op).1 ≤ 3 ∧ (Pg.hasP op).2.2 = false) := by
  unfold Pg.hasP
  repeat' split
  all_goals first | exact .inl rfl | exact .inr ⟨by decide, rfl⟩
theorem fbs_small {x : In} {many : Nat} (hm : many ≤ 64) (h : Ok x many) : ∀ l : List UInt8, (∀ c ∈ l, c = 65 ∨ c = 66 ∨ c = 67 ∨ c = 78) → (Pg.fbs x l).length = l.length
  | [], _ => rfl
  | c :: r, hl => by
    have e : Pg.fbs x (c :: r) = (Pg.fieldB x c.toNat).data.toList ++ Pg.fbs x r := rfl
    have h1 := fbs_small hm h r (fun d hd => hl d (by simp [hd]))
    have h75 : c.toNat ≠ 75 := by rcases hl c (by simp) with rfl | rfl | rfl | rfl <;> decide
    have h2 : (Pg.fieldB x c.toNat).data.toList.length = 1 := by
      unfold Pg.fieldB
      rw [if_neg h75]
      have h3 := get_ok hm h c.toNat h75 (by
        rcases hl c (by simp) with rfl | rfl | rfl | rfl
        · exact .inl rfl
        · exact .inr (.inl rfl)
        · exact .inr (.inr (.inl rfl))
        · exact .inr (.inr (.inr rfl)))
      show (Pk.enc (Pg.get x c.toNat)).toArray.toList.length = 1
      rw [List.toList_toArray, enc_one (by omega)]
    rw [e, List.length_append, List.length_cons]
    omega
theorem insB_ten {x : In} (hx : x.Fits) {many : Nat} (hm : many ≤ 64) (h : Pg.insE x many = 0) : (Pg.insB x).data.toList.length ≤ 10 := by
  have hok := ins_ok hx hm h
  obtain ⟨hf, _, h3⟩ := ins_fl x many h
  have hu := un_id (v := x.op) (by have := hok.op; omega) (by have := hok.op; omega)
  unfold Pg.insB
  rw [hf, goB_list, List.length_append]
  have h1 : (⟨(Pk.enc (Pg.un x.op)).toArray⟩ : ByteArray).data.toList.length = 1 := by
    show (Pk.enc (Pg.un x.op)).toArray.toList.length = 1
    rw [List.toList_toArray, enc_one (by have := hok.op; omega)]
  rw [h1]
  rcases has_kinds x.op with hk | ⟨hk1, hk2⟩
  · rw [hk]
    have e : Pg.fbs x (Pg.fl (1, false, true)) = (Pg.fieldB x 65).data.toList ++ ((Pg.fieldB x 75).data.toList ++ []) := rfl
    have e2 := fbs_small hm hok [65] (by simp)
    have e3 : Pg.fbs x [65] = (Pg.fieldB x 65).data.toList ++ [] := rfl
    have e4 : (Pg.fieldB x 75).data.toList.length = 8 := rfl
    rw [e3, List.append_nil] at e2
    rw [e, List.length_append, List.length_append, e2, e4]
    decide
  · have hs := fbs_small hm hok (Pg.fl (Pg.hasP x.op)) (fun c hc => by
      generalize Pg.hasP x.op = hp at *
      obtain ⟨r, nb, kb⟩ := hp
      simp only at hk2
      subst hk2
      unfold Pg.fl at hc
      rcases List.mem_append.1 hc with h | h
      · have := List.mem_of_mem_take h
        simp at this
        rcases this with h | h | h <;> simp [h]
      · cases nb <;> simp at h
        simp [h])
    rw [hs]
    generalize Pg.hasP x.op = hp at *
    obtain ⟨r, nb, kb⟩ := hp
    simp only at hk2 hk1
    subst hk2
    have : (Pg.fl (r, nb, false)).length ≤ 4 := by
      unfold Pg.fl
      rw [List.length_append, List.length_take]
      have : (([65, 66, 67] : List UInt8)).length = 3 := rfl
      cases nb <;> simp <;> omega
    omega
theorem flat_ten {many : Nat} (hm : many ≤ 64) : ∀ xs : List In, (∀ x ∈ xs, x.Fits) → (∀ x ∈ xs, Pg.insE x many = 0) → (xs.flatMap fun x => (Pg.insB x).data.toList).length ≤ 10 * xs.length
  | [], _, _ => Nat.zero_le _
  | x :: r, hx, hi => by
    rw [List.flatMap_cons, List.length_append, List.length_cons]
    have h1 := insB_ten (hx x (by simp)) hm (hi x (by simp))
    have h2 := flat_ten hm r (fun y hy => hx y (by simp [hy])) (fun y hy => hi y (by simp [hy]))
    omega
/-- the bytes of a program that may be are few, and are read as what it was -/
theorem unpack_pack {fuel : Int} {xs : List In} (hx : ∀ x ∈ xs, x.Fits) (h : (Pg.checkE fuel xs).1 = 0) : (Pg.packS fuel xs).size ≤ 643 ∧ Pg.unpackS (Pg.packS fuel xs) = ((fuel.toNat, xs), 0) := by
  obtain ⟨hf1, hf2, hn1, hn2⟩ := checkE_two fuel xs h
  have hi := check_ins fuel xs h
  have hu := un_id (v := fuel) (by omega) hf2
  have hun : Pg.un fuel = fuel.toNat := by omega
  have hul : Pg.un (xs.length : Int) = xs.length := by have := un_id (v := (xs.length : Int)) (by omega) (by omega); omega
  have e : Pg.packS fuel xs = ⟨(Pk.enc (Pg.un fuel) ++ (Pk.enc xs.length ++ xs.flatMap fun x => (Pg.insB x).data.toList)).toArray⟩ := by
    unfold Pg.packS Pg.packB
    rw [if_pos h, allB_flat, hul, List.append_assoc]
  have hsz : (Pg.packS fuel xs).size ≤ 643 := by
    rw [e]
    show (Pk.enc (Pg.un fuel) ++ (Pk.enc xs.length ++ xs.flatMap fun x => (Pg.insB x).data.toList)).toArray.size ≤ 643
    rw [List.size_toArray, List.length_append, List.length_append]
    have h1 := enc_two (n := Pg.un fuel) (by omega)
    have h2 := enc_one (n := xs.length) (by omega)
    have h3 := flat_ten hn2 xs hx hi
    omega
  refine ⟨hsz, ?_⟩
  generalize hb : Pg.packS fuel xs = b at *
  have hr : rest b 0 = Pk.enc (Pg.un fuel) ++ (Pk.enc xs.length ++ ((xs.flatMap fun x => (Pg.insB x).data.toList) ++ [])) := by rw [e, List.append_nil]; rfl
  obtain ⟨q1, hq1, hr1⟩ := num_at (most := 1024) hr (by omega) (un_lt _)
  obtain ⟨q2, hq2, hr2⟩ := list_at (most := 64) hr1 hn2 (by omega)
  obtain ⟨q3, hq3, hr3⟩ := many_at hn2 xs q2 [] [] hx hi hr2
  have hrow : Pg.rowS b = (xs, (q3, 0)) := by
    unfold Pg.rowS
    rw [hq1, hq2]
    exact hq3
  have hend : ¬ (q3 : Int) < (b.size : Int) := by
    have h1 := rest_len b q3
    rw [hr3] at h1
    simp at h1
    omega
  unfold Pg.unpackS
  rw [if_neg (by omega), hrow, hq1, if_neg (by unfold endE; simp only; rw [if_neg (fun k => hend k.2)]; simp), hu, if_neg (by simp [h]), hun]
end Go.Proofs.YtpgehocadohkiaaGreatDoor
end

section
namespace Go.Proofs.YtpgehocadohkiaaGreatDoor
open Go.RowKit Go.Shelf

theorem idx_at (c : UInt8) : ∀ (l r : List UInt8), c ∉ l → Lib.indexByte (l ++ c :: r) c = (l.length : Int)
  | [], r, _ => by show (if c == c then (0 : Int) else _) = _; rw [if_pos (by simp)]; rfl
  | d :: l, r, h => by
    have hd : d ≠ c := fun e => h (by simp [e])
    have ih := idx_at c l r (fun k => h (by simp [k]))
    show (if d == c then (0 : Int) else if Lib.indexByte (l ++ c :: r) c == -1 then -1 else Lib.indexByte (l ++ c :: r) c + 1) = _
    rw [if_neg (by simpa using hd), ih, if_neg (by simp), List.length_cons]
    rfl
theorem idx_no (c : UInt8) : ∀ (l : List UInt8), c ∉ l → Lib.indexByte l c = -1
  | [], _ => rfl
  | d :: l, h => by
    have hd : d ≠ c := fun e => h (by simp [e])
    have ih := idx_no c l (fun k => h (by simp [k]))
    show (if d == c then (0 : Int) else if Lib.indexByte l c == -1 then -1 else Lib.indexByte l c + 1) = _
    rw [if_neg (by simpa using hd), ih, if_pos (by decide)]
namespace Pg
def mk (l : List UInt8) : ByteArray := ⟨l.toArray⟩
end Pg
theorem mk_ext (L : List UInt8) (a b : Nat) : (Pg.mk L).extract a b = Pg.mk ((L.drop a).take (b - a)) := by
  unfold Pg.mk
  apply ByteArray.ext
  rw [ByteArray.data_extract]
  apply Array.ext'
  rw [Array.toList_extract, List.extract_eq_take_drop]
theorem mk_size (L : List UInt8) : (Pg.mk L).size = L.length := by show L.toArray.size = _; simp
theorem mk_data (L : List UInt8) : (Pg.mk L).data.toList = L := by show L.toArray.toList = _; simp
theorem mk_self (b : ByteArray) : Pg.mk b.data.toList = b := rfl
theorem mk_head (l r : List UInt8) (n : Nat) (h : n = l.length) : (Pg.mk (l ++ r)).extract 0 n = Pg.mk l := by
  subst h; rw [mk_ext, List.drop_zero, Nat.sub_zero, List.take_left]
theorem mk_tail (l r : List UInt8) (n : Nat) (h : n = l.length) : (Pg.mk (l ++ r)).extract n (Pg.mk (l ++ r)).size = Pg.mk r := by
  subst h
  rw [mk_ext, mk_size, List.drop_left, List.length_append, Nat.add_sub_cancel_left, List.take_length]
theorem split_join : ∀ (ws : List (List UInt8)) (w : List UInt8) (n : Nat), 32 ∉ w → (∀ u ∈ ws, 32 ∉ u) → ws.length ≤ n → Pg.splitW n (Pg.mk (w ++ ws.flatMap (fun u => 32 :: u))) = Pg.mk w :: ws.map Pg.mk
  | [], w, n, hw, _, _ => by
    rw [List.flatMap_nil, List.append_nil]
    cases n with
    | zero => rfl
    | succ m =>
      unfold Pg.splitW
      rw [mk_data, idx_no 32 w hw, if_pos (by decide)]
      rfl
  | u :: t, w, 0, _, _, h => by simp at h
  | u :: t, w, m + 1, hw, hu, h => by
    unfold Pg.splitW
    rw [List.flatMap_cons, List.cons_append, mk_data, idx_at 32 w _ hw, if_neg (by omega), Int.toNat_natCast, mk_head w _ _ rfl]
    have e : w ++ 32 :: (u ++ t.flatMap (fun u => 32 :: u)) = (w ++ [32]) ++ (u ++ t.flatMap (fun u => 32 :: u)) := by simp
    rw [e, mk_tail (w ++ [32]) _ _ (by simp), split_join t u m (hu u (by simp)) (fun v hv => hu v (by simp [hv])) (by simp at h; omega)]
    rfl
theorem lines_join : ∀ (t : List (List UInt8)) (l : List UInt8) (n : Nat), 10 ∉ l → (∀ u ∈ t, 10 ∉ u) → t.length < n → Pg.linesG n (Pg.mk (l ++ 10 :: t.flatMap (fun u => u ++ [10]))) = Pg.mk (l ++ [10]) :: t.map (fun u => Pg.mk (u ++ [10]))
  | t, l, 0, _, _, h => by omega
  | t, l, m + 1, hl, ht, h => by
    have he : Pg.endL (Pg.mk (l ++ 10 :: t.flatMap (fun u => u ++ [10]))) = (l ++ [10]).length := by
      unfold Pg.endL
      rw [mk_data, idx_at 10 l _ hl, if_neg (by omega), Int.toNat_natCast, List.length_append]
      rfl
    have e : l ++ 10 :: t.flatMap (fun u => u ++ [10]) = (l ++ [10]) ++ t.flatMap (fun u => u ++ [10]) := by simp
    unfold Pg.linesG
    rw [he, e, mk_head _ _ _ rfl, mk_tail _ _ _ rfl]
    congr 1
    cases t with
    | nil => rw [if_pos (by rw [mk_size]; rfl)]; rfl
    | cons u r =>
      rw [if_neg (by rw [mk_size, List.flatMap_cons, List.length_append, List.length_append]; simp), List.flatMap_cons, List.append_assoc]
      exact lines_join r u m (ht u (by simp)) (fun v hv => ht v (by simp [hv])) (by simp at h; omega)
theorem lines_many : ∀ (t : List (List UInt8)), t.length ≤ (t.flatMap (fun u => u ++ [10])).length
  | [] => Nat.le_refl _
  | u :: r => by
    have := lines_many r
    rw [List.flatMap_cons, List.length_append, List.length_append, List.length_cons]
    have e : ([10] : List UInt8).length = 1 := rfl
    omega
theorem linesP_join (t : List (List UInt8)) (l : List UInt8) (hl : 10 ∉ l) (ht : ∀ u ∈ t, 10 ∉ u) : Pg.linesP (Pg.mk (l ++ 10 :: t.flatMap (fun u => u ++ [10]))) = Pg.mk (l ++ [10]) :: t.map (fun u => Pg.mk (u ++ [10])) := by
  unfold Pg.linesP
  refine lines_join t l _ hl ht ?_
  have := lines_many t
  rw [mk_size, List.length_append, List.length_cons]
  omega
end Go.Proofs.YtpgehocadohkiaaGreatDoor
end

section
namespace Go.Proofs.YtpgehocadohkiaaGreatDoor
open Go.RowKit Go.Shelf

namespace Pg
/-- no blank, no end of a line -/
def Pure (l : List UInt8) : Prop := 32 ∉ l ∧ 10 ∉ l
end Pg
theorem pure_app {l r : List UInt8} (h : Pg.Pure l) (k : Pg.Pure r) : Pg.Pure (l ++ r) := ⟨fun m => (List.mem_append.1 m).elim h.1 k.1, fun m => (List.mem_append.1 m).elim h.2 k.2⟩
theorem pure_dig {l : List UInt8} (h : l.all digB = true) : Pg.Pure l := by
  rw [List.all_eq_true] at h
  exact ⟨fun m => absurd (h _ m) (by decide), fun m => absurd (h _ m) (by decide)⟩
theorem pure_dec (n : Nat) : Pg.Pure (Lib.decDigits n) := pure_dig (digits_all n)
theorem pure_itoa (k : Int) : Pg.Pure (Lib.itoa k) := by
  unfold Lib.itoa
  split
  · exact pure_app (l := [45]) ⟨by decide, by decide⟩ (pure_dec _)
  · exact pure_dec _
theorem pure_amt (a : Nat) : Pg.Pure (amtB a).data.toList := by
  unfold amtB
  split
  · exact ⟨by decide, by decide⟩
  split
  · exact ⟨by decide, by decide⟩
  split
  · exact ⟨by decide, by decide⟩
  rw [ByteArray.data_append, Array.toList_append, ByteArray.data_append, Array.toList_append]
  exact pure_app (pure_app (by show Pg.Pure (Lib.decDigits _).toArray.toList; rw [List.toList_toArray]; exact pure_dec _) ⟨by decide, by decide⟩) (by show Pg.Pure (Lib.itoa _).toArray.toList; rw [List.toList_toArray]; exact pure_itoa _)
theorem pure_text (a : Nat) : Pg.Pure (textB a).data.toList := by
  unfold textB
  split
  · exact pure_amt _
  · rw [ByteArray.data_append, Array.toList_append]
    exact pure_app ⟨by decide, by decide⟩ (pure_amt _)
theorem pure_field (l v : Nat) : Pg.Pure (Pg.fieldT l v).data.toList := by
  unfold Pg.fieldT
  split
  · exact pure_text v
  split
  · show Pg.Pure (Lib.decDigits v).toArray.toList; rw [List.toList_toArray]; exact pure_dec v
  · rw [ByteArray.data_append, Array.toList_append]
    exact pure_app ⟨by decide, by decide⟩ (by show Pg.Pure (Lib.decDigits v).toArray.toList; rw [List.toList_toArray]; exact pure_dec v)
theorem dec_short {v : Nat} (h : v ≤ 1024) : (Lib.decDigits v).length ≤ 4 := by
  by_cases h1 : v < 10
  · rw [Lib.decDigits]; simp [h1]
  · rw [digits_rec (by omega), List.length_append]
    by_cases h2 : v / 10 < 10
    · rw [Lib.decDigits]; simp [h2]
    · rw [digits_rec (by omega), List.length_append]
      by_cases h3 : v / 10 / 10 < 10
      · rw [Lib.decDigits]; simp [h3]
      · rw [digits_rec (by omega), List.length_append, Lib.decDigits]
        simp [show v / 10 / 10 / 10 < 10 by omega]
theorem num_there {v : Nat} (h : v ≤ 1024) : Pg.numP ⟨(Lib.decDigits v).toArray⟩ = (v, true) := by
  have hs : (⟨(Lib.decDigits v).toArray⟩ : ByteArray).size ≤ 4 := by show (Lib.decDigits v).toArray.size ≤ 4; rw [List.size_toArray]; exact dec_short h
  have hw : wholeB ⟨(Lib.decDigits v).toArray⟩ = true := by rw [whole_list, mk_list]; exact digits_whole v
  have hp := pu_whole hw (by omega)
  have hv : numD ⟨(Lib.decDigits v).toArray⟩ = v := by unfold numD; rw [mk_list]; exact dec_digits v
  unfold Pg.numP
  rw [if_neg (by omega), hp, hv]
  simp
theorem reg_there {v : Nat} (h : v < 8) : Pg.regP ((⟨#[114]⟩ : ByteArray) ++ ⟨(Lib.decDigits v).toArray⟩) = (v, true) := by
  have e : ((⟨#[114]⟩ : ByteArray) ++ ⟨(Lib.decDigits v).toArray⟩).data.toList = 114 :: Lib.decDigits v := by
    rw [ByteArray.data_append, Array.toList_append]; simp
  have hp : Lib.hasPrefix (114 :: Lib.decDigits v) [114] = true := by unfold Lib.hasPrefix; simp [List.isPrefixOf]
  have hc : Pg.cutR ((⟨#[114]⟩ : ByteArray) ++ ⟨(Lib.decDigits v).toArray⟩) = ⟨(Lib.decDigits v).toArray⟩ := by
    unfold Pg.cutR Lib.trimPrefix
    rw [e, if_pos hp]
    rfl
  unfold Pg.regP
  rw [e, if_pos hp, hc, num_there (by omega)]
  simp [h]
end Go.Proofs.YtpgehocadohkiaaGreatDoor
end
