import Derived.Test.YtapcmmljdpallaaPkC
import Derived.Test.YtapcmmljdpallaaShelfC
import Derived.Defers
import Derived.Recover
namespace Go.Proofs.Ytapcmmljdpallaa
open Go.RowKit

/-- what number comes to -/
def NPost (w : World) (B p : Nat) (b : ByteArray) (f : Int) (D : Nat × Nat × Nat) (most : Nat) (above : Int) (e : Ending) (w' : World) : Prop :=
  (∃ n m, D = (0, n, m) ∧ n ≤ most ∧ e = .returned (.int .u64 (n : Int)) ∧ Rd w' B b ((p + m : Nat) : Int) f ∧ w.grownBy w' (some B)) ∨
  (∃ n m, D = (0, n, m) ∧ most < n ∧ Gives e above ∧ (∃ q : Int, Rd w' B b q f) ∧ w.grownBy w' (some B)) ∨
  (∃ k : Nat, k ≠ 0 ∧ D = (k, 0, 0) ∧ Gives e k ∧ (∃ q : Int, Rd w' B b q f) ∧ w.grownBy w' (some B))

theorem grown_drew (w : World) (n : Nat) (r : Option Nat) : w.grownBy (w.drewN n) r := ⟨rfl, rfl, rfl, Nat.le_refl _, fun _ _ _ => rfl⟩

set_option maxHeartbeats 400000 in
theorem number_any {w : World} {B p most : Nat} {b : ByteArray} {f above : Int} (h : Rd w B b p f) (hp : p ≤ b.size) (hb : b.size ≤ 140737488351232) :
    Calls Try.prog 37 #[.pointer (some ⟨B, 0, none⟩), .int .u64 (most : Int), .int .i64 above] w (NPost w B p b f (Pk.dec 0 0 (rest b p)) most above) := by
  go_enter Try.func37, Try.ntmps37
  go_wp2_with fail
  refine (groups_any h hp hb).mono ?_
  rintro e w' (⟨n, m, hD, rfl, hR, hg⟩ | ⟨k, hk, hD, he, n, rfl⟩)
  · have HD : Hid (Pk.dec 0 0 (rest b p) = (0, n, m)) := hD
    clear hD
    by_cases hn : n ≤ most
    · have b0 : decide ((most : Int) < (n : Int)) = false := by simp; omega
      go_wp2_with fail
      go_ret
      exact .inl ⟨n, m, HD.out, hn, rfl, hR, hg⟩
    · have b0 : decide ((most : Int) < (n : Int)) = true := by simp; omega
      go_wp2_with fail
      exact ⟨rfl, .inr (.inl ⟨n, m, HD.out, by omega, rfl, ⟨_, hR⟩, hg⟩)⟩
  · have HD : Hid (Pk.dec 0 0 (rest b p) = (k, 0, 0)) := hD
    clear hD
    unfold Gives at he
    subst he
    go_wp2_with fail
    exact ⟨rfl, .inr (.inr ⟨k, hk, HD.out, rfl, ⟨_, h.drew n⟩, grown_drew _ _ _⟩)⟩
end Go.Proofs.Ytapcmmljdpallaa
