import Derived.Test.YteokcgclmgleiaaDoorPsA
import Derived.Test.YteokcgclmgleiaaDoorPsM
namespace Go.Proofs.YteokcgclmgleiaaDoor
open Go.RowKit

theorem ord_f {r q : Nat} (hr : r ≤ 9218868437227405312) (hq : q ≤ 9218868437227405312) : FloatKind.f64.format.order r q = some (compare (Gn.vl r : Int) (Gn.vl q)) := by
  have h1 := Gn.read_wd false r (by omega)
  have h2 := Gn.read_wd false q (by omega)
  rw [Gn.wd_f] at h1 h2
  show (Ieee.double.read r).order (Ieee.double.read q) = _
  rw [h1, h2, Gn.order_rd false false r q hr hq]; rfl
/-- math.Ldexp of a whole number below 2^53: exact -/
theorem ldexp_any (n x : Nat) (k : Int) (hn : 1 ≤ n) (hx : x < 9218868437227405312) (hv : Gn.vl x = n * Gn.UU) (hn2 : n < 9007199254740992) (hk : -1074 ≤ k) (hk2 : k + n.log2 ≤ 1023) (w : World) :
    Calls Tryd.prog 39 #[.float .f64 x, .int .i64 k] w fun e w' => e = .returned (.float .f64 (Gn.rn (n * 2 ^ (k + 1074).toNat))) ∧ w' = w := by
  obtain ⟨hb, _⟩ := Gn.parts hn hv
  have hE := Gn.place_is hn hv
  have hlow : lowW x = x := by unfold lowW; omega
  have hfx : fx x = x / 4503599627370496 := by unfold fx; omega
  have hfm : fm x + (x / 4503599627370496) * 4503599627370496 = x := by unfold fm; omega
  have hl53 : n.log2 ≤ 52 := by
    have := (Nat.log2_lt (n := n) (k := 53) (by omega)).2 (by omega)
    omega
  have vmax : Gn.vl x ≤ Gn.vl 9218868437227405311 := by
    rcases Nat.lt_or_ge x 9218868437227405311 with h | h
    · exact Nat.le_of_lt (Gn.vl_lt h)
    · rw [show x = 9218868437227405311 by omega]; exact Nat.le_refl _
  have vmin : Gn.vl 4503599627370496 ≤ Gn.vl x := by
    rcases Nat.lt_or_ge 4503599627370496 x with h | h
    · exact Nat.le_of_lt (Gn.vl_lt h)
    · rw [show x = 4503599627370496 by omega]; exact Nat.le_refl _
  have vpos : 0 < Gn.vl x := Gn.vl_pos (by omega)
  have t1 : (FloatKind.f64.format.order x 0 == some .eq) = false := by
    rw [ord_f (by omega) (by omega), Gn.vl_zero, Gn.cmp_gt (by omega)]; rfl
  have t2 : (FloatKind.f64.format.order (lowW x) 9218868437227405311 == some .gt) = false := by
    rw [hlow, ord_f (by omega) (by omega)]
    rcases Nat.lt_or_ge (Gn.vl x) (Gn.vl 9218868437227405311) with h | h
    · rw [Gn.cmp_lt (by omega)]; rfl
    · rw [Gn.cmp_eq (by omega)]; rfl
  have t3 : (FloatKind.f64.format.order x x != some .eq) = false := by
    rw [ord_f (by omega) (by omega), Gn.cmp_eq rfl]; rfl
  have t4 : (FloatKind.f64.format.order (lowW x) 4503599627370496 == some .lt) = false := by
    rw [hlow, ord_f (by omega) (by omega)]
    rcases Nat.lt_or_ge (Gn.vl 4503599627370496) (Gn.vl x) with h | h
    · rw [Gn.cmp_gt (by omega)]; rfl
    · rw [Gn.cmp_eq (by omega)]; rfl
  rcases Int.lt_or_le (k + (fx x - 1023)) (-1022) with hs | hs
  · obtain ⟨y, hy⟩ : ∃ y : Nat, (y : Int) = x + (k + 53) * 4503599627370496 := ⟨(x + (k + 53) * 4503599627370496 : Int).toNat, by omega⟩
    have hyv := Gn.moved hn hv (k + 53) y hy (by omega) (by omega)
    have hyv2 : Gn.vl y = n * 2 ^ (k + 1074).toNat * 2 ^ 53 := by
      rw [hyv, Nat.mul_assoc, ← Nat.pow_add, show (k + 53 + 1074).toNat = (k + 1074).toNat + 53 by omega]
    refine ldexp_of (fun w => ldexpIn_low x (by omega) k (by omega) (by omega) w t1 t2 t3 t4 (by omega) hs y _ (by omega) (Gn.mul_small (by omega) hyv2)) w
  · obtain ⟨y, hy⟩ : ∃ y : Nat, (y : Int) = x + k * 4503599627370496 := ⟨(x + k * 4503599627370496 : Int).toNat, by omega⟩
    have hyv := Gn.moved hn hv k y hy (by omega) (by omega)
    have hyl : y < 9218868437227405312 := by omega
    rw [← hyv, Gn.rn_vl hyl]
    exact ldexp_of (fun w => ldexpIn_mid x (by omega) k (by omega) (by omega) w t1 t2 t3 t4 hs (by omega) y y (by omega) (Gn.mul_one hyl)) w
end Go.Proofs.YteokcgclmgleiaaDoor
