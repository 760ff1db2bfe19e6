import Derived.Test.YtapcmmljdpallaaPkJ
import Derived.Laws.IdiomStrings
import Derived.Laws.BytesString
namespace Go.Proofs.Ytapcmmljdpallaa
open Go.RowKit

/-- cells of bytes -/
def bc (l : List UInt8) : List Value := l.map fun c => Value.int .u8 (c.toNat : Int)
theorem bc_len (l : List UInt8) : (bc l).length = l.length := by simp [bc]
theorem bc_append (l m : List UInt8) : bc (l ++ m) = bc l ++ bc m := by simp [bc]
theorem nil_str (w : World) : (convert 86 9 (.slice none 0 0)).run Try.prog w = .ok (.string ⟨#[]⟩) w := by
  rw [run_convert_bytes_string w _ _ _ none 0 0 Try.underlying86 Try.underlying5 Try.underlying9]
  simp [Conv.bytesToString]
  rfl
/-- 'string(b)' of a slice of the call's own -/
theorem own_str {w : World} {base : Nat} {v : Value} {l : List UInt8} (h : w.ownsRow base 5 1 v l.length (bc l)) : (convert 86 9 v).run Try.prog w = .ok (.string ⟨l.toArray⟩) w := by
  rcases h.2 with ⟨rfl, hn⟩ | ⟨g, cap, cur, rfl, hb, hg, hc, hm, hs, ht⟩
  · have : l = [] := List.length_eq_zero_iff.1 hn
    subst this
    exact nil_str w
  · refine run_convert_bytes_back w _ _ _ ⟨g, 0, none⟩ cap l Try.underlying86 Try.underlying5 Try.underlying9 ?_
    intro j hj
    refine World.ownsRow.cells (v := .slice (some ⟨g, 0, none⟩) l.length cap) h rfl j _ ?_
    simp [bc, hj]
theorem Try.infoB : (Try.prog.info? 5).map (fun i => (i.zero, i.size, i.bytes)) = some (some (.int .u8 0), 1, 1) := by kernel_rfl

namespace Pk
theorem enc_len (k : Nat) : ∀ n, n < 128 ^ (k + 1) → (enc n).length ≤ k + 1 := by
  induction k with
  | zero => intro n h; rw [enc_lt (by simpa using h)]; simp
  | succ k ih =>
    intro n h
    by_cases hn : n < 128
    · rw [enc_lt hn]; simp
    · rw [enc_ge hn, List.length_cons]
      have := ih (n / 128) (by rw [Nat.pow_succ] at h; omega)
      omega
theorem enc_ten {n : Nat} (h : n < 18446744073709551616) : (enc n).length ≤ 10 := by
  have e : (128 : Nat) ^ (9 + 1) = 1180591620717411303424 := by decide
  exact enc_len 9 n (by omega)
end Pk
theorem or7 (x : Nat) (h : x < 256) : x ||| 128 = x % 128 + 128 := by
  rcases Nat.lt_or_ge x 128 with h1 | h1
  · rw [Nat.or_comm, nat_join 7 128 x (by decide) (by omega)]; omega
  · obtain ⟨y, rfl⟩ : ∃ y, x = 128 + y := ⟨x - 128, by omega⟩
    have e : 128 + y = 128 ||| y := (nat_join 7 128 y (by decide) (by omega)).symm
    have e2 : (128 + y) ||| 128 = 128 + y := by rw [e, Nat.or_comm, ← Nat.or_assoc, Nat.or_self]
    rw [e2]; omega
theorem or128 (m : Nat) : bits .or .u8 (((m : Int) % 256)) 128 = (((m % 128 + 128 : Nat)) : Int) := by
  rw [show (m : Int) % 256 = ((m % 256 : Nat) : Int) by simp, show (128 : Int) = ((128 : Nat) : Int) from rfl, u8_or_nat _ _ (by omega) (by omega), or7 _ (by omega)]
  congr 1
  omega
theorem one_new (w : World) (v : Value) (t : TypeId) : ∀ j u, [v][j]? = some u → (w.alloc (.cells #[v] t)).cell? ((⟨w.heap.size, 0, none⟩ : Addr).add j) = some u := by
  intro j u hj
  match j, hj with
  | 0, hj => simp at hj; subst hj; simp [Addr.add]

theorem grow_below {B : Nat} {w wr w1 : World} {u : Value} {n : Nat} {xs : List Value} {e : TypeId} {sz : Nat} (hB : B ≤ w.heap.size) (hbel : Below B w wr) (hown : wr.ownsRow B e sz u n xs) (o : Obj) (hgrow : (wr.alloc o).grownBy w1 u.ownBlock) : Below B w w1 :=
  (hbel.alloc (Nat.le_trans hB hbel.size) o).grown hgrow (by have := hbel.size; simp; omega) (fun k hk => (hown.lt k hk).1)

set_option maxHeartbeats 800000 in
set_option maxRecDepth 8000 in
theorem pnum_any (n : Nat) (hn : n < 18446744073709551616) (w : World) :
    Calls Try.prog 29 #[.int .u64 (n : Int)] w fun e w' => e = .returned (.string ⟨(Pk.enc n).toArray⟩) ∧ Below w.heap.size w w' := by
  obtain ⟨i0, hi, hz0, hz1, hz2⟩ := info_parts Try.infoB
  go_enter Try.func29, Try.ntmps29
  go_wp2
  go_loopw [0, 3] (fun u v wr => ∃ (m : Nat) (pre : List UInt8), u = .int .u64 (m : Int) ∧ m ≤ n ∧ Hid (Pk.enc n = pre ++ Pk.enc m) ∧ wr.ownsRow w.heap.size 5 1 v pre.length (bc pre) ∧ Below w.heap.size w wr) (fun u _ _ => (intOf u).toNat)
  case atStart => exact ⟨n, [], rfl, Nat.le_refl _, rfl, World.ownsRow_nil _ _ _ _, Below.refl _ _⟩
  case round =>
    obtain ⟨m, pre, rfl, hm, HE, hown, hbel⟩ := hrel
    have hlen := Pk.enc_ten hn
    rw [HE.out, List.length_append] at hlen
    have hpos := Pk.enc_pos m
    by_cases h128 : m < 128
    · have b0 : decide ((128 : Int) ≤ (m : Int)) = false := by simp; omega
      have HN : Hid (bc (Pk.enc n) = bc pre ++ [.int .u8 (m : Int)]) := (show bc (Pk.enc n) = _ by
        rw [HE.out, bc_append, Pk.enc_lt h128]; simp only [bc, List.map_cons, List.map_nil]; rw [Pk.toNat_ofNat (by omega)])
      have HM : Hid (pre.length + 1 = (Pk.enc n).length) := (show pre.length + 1 = _ by rw [HE.out, List.length_append, Pk.enc_lt h128]; rfl)
      go_wp2_with (first
        | (at_builtin; refine wpList_append_own _ rfl _ _ 86 rfl w.heap.size 5 i0 (.int .u8 0) 1 1 Try.underlying86 hi hz0 hz1 hz2 rfl (by decide) _ _ _ rfl (hown.alloc _) ⟨wr.heap.size, 0, none⟩ 1 1 [.int .u8 (m : Int)] rfl rfl (one_new _ _ _) (by intro u hu; simp at hu; subst hu; rfl) (by unfold maxLen; omega) (by omega) (by have := hbel.size; simp; omega) ?_; intro v' w1 hown' hgrow hnil; clear hnil; have hcv : (convert 86 9 v').run Try.prog w1 = .ok (.string ⟨(Pk.enc n).toArray⟩) w1 := own_str (base := w.heap.size) (by rw [← HM.out, HN.out]; exact hown'); have hb1 : Below w.heap.size w w1 := grow_below (Nat.le_refl _) hbel hown _ hgrow; clear hown' hgrow hown hbel)
        | go_in)
      go_ret
      exact ⟨rfl, hb1⟩
    · have b0 : decide ((128 : Int) ≤ (m : Int)) = true := by simp; omega
      have HE' : Hid (Pk.enc n = (pre ++ [UInt8.ofNat (m % 128 + 128)]) ++ Pk.enc (m / 128)) := (show Pk.enc n = _ by rw [HE.out, Pk.enc_ge h128]; simp)
      have HN : Hid (bc (pre ++ [UInt8.ofNat (m % 128 + 128)]) = bc pre ++ [.int .u8 (bits .or .u8 ((m : Int) % 256) 128)]) := (show bc _ = _ by
        rw [bc_append, or128]; simp only [bc, List.map_cons, List.map_nil]; rw [Pk.toNat_ofNat (by omega)])
      go_wp2_with (first
        | (at_builtin; refine wpList_append_own _ rfl _ _ 86 rfl w.heap.size 5 i0 (.int .u8 0) 1 1 Try.underlying86 hi hz0 hz1 hz2 rfl (by decide) _ _ _ rfl (hown.alloc _) ⟨wr.heap.size, 0, none⟩ 1 1 [.int .u8 (bits .or .u8 ((m : Int) % 256) 128)] rfl rfl (one_new _ _ _) (by intro u hu; simp at hu; subst hu; rfl) (by unfold maxLen; omega) (by omega) (by have := hbel.size; simp; omega) ?_; intro v' w1 hown' hgrow hnil; clear hnil; have HB1 : Hid (Below w.heap.size w w1) := grow_below (Nat.le_refl _) hbel hown _ hgrow)
        | go_in)
      refine ⟨⟨m / 128, pre ++ [UInt8.ofNat (m % 128 + 128)], by go_num, by omega, HE', ?_, HB1.out⟩, by simp [intOf]; omega⟩
      rw [HN.out, List.length_append]
      exact hown'
end Go.Proofs.Ytapcmmljdpallaa
