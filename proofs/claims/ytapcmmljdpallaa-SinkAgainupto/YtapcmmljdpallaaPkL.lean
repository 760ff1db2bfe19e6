import Derived.Test.YtapcmmljdpallaaPkK
import Derived.Laws.Concat
namespace Go.Proofs.Ytapcmmljdpallaa
open Go.RowKit

namespace Pk
def big8 (n : Nat) : List UInt8 := [UInt8.ofNat (n / 72057594037927936 % 256), UInt8.ofNat (n / 281474976710656 % 256), UInt8.ofNat (n / 1099511627776 % 256), UInt8.ofNat (n / 4294967296 % 256), UInt8.ofNat (n / 16777216 % 256), UInt8.ofNat (n / 65536 % 256), UInt8.ofNat (n / 256 % 256), UInt8.ofNat (n % 256)]
end Pk

set_option maxHeartbeats 400000 in
theorem ptext_any (s : ByteArray) (hs : s.size ≤ 140737488351232) (w : World) :
    Calls Try.prog 80 #[.string s] w fun e w' => e = .returned (.string ((⟨(Pk.enc s.size).toArray⟩ : ByteArray) ++ s)) ∧ Below w.heap.size w w' := by
  have hlen := Pk.enc_ten (n := s.size) (by omega)
  have hadd : ∀ w1 : World, (Op.stringOp .add ⟨(Pk.enc s.size).toArray⟩ s).run Try.prog w1 = .ok (.string ((⟨(Pk.enc s.size).toArray⟩ : ByteArray) ++ s)) w1 := fun w1 =>
    run_string_add_sum w1 _ _ (by show (Pk.enc s.size).toArray.size + s.size ≤ _; simp; omega)
  generalize (⟨(Pk.enc s.size).toArray⟩ : ByteArray) ++ s = t at *
  go_enter Try.func80, Try.ntmps80
  go_wp2_with (go_at_call 29; refine (pnum_any s.size (by omega) _).mono ?_; rintro e w' ⟨rfl, hb⟩)
  go_ret
  exact ⟨rfl, hb⟩

/-- the eight bytes as the walk lays them -/
theorem big8_cell (n : Nat) (hn : n < 18446744073709551616) (w : World) : ∀ j (hj : j < (Pk.big8 n).length), (w.alloc (.cells #[.int .u8 ((n : Int) / 72057594037927936), .int .u8 ((n : Int) / 281474976710656 % 256), .int .u8 ((n : Int) / 1099511627776 % 256), .int .u8 ((n : Int) / 4294967296 % 256), .int .u8 ((n : Int) / 16777216 % 256), .int .u8 ((n : Int) / 65536 % 256), .int .u8 ((n : Int) / 256 % 256), .int .u8 ((n : Int) % 256)] 141)).cell? ((⟨w.heap.size, 0, none⟩ : Addr).add j) = some (.int .u8 ((Pk.big8 n)[j].toNat : Int)) := by
  intro j hj
  have hadd : (⟨w.heap.size, 0, none⟩ : Addr).add j = ⟨w.heap.size, j, none⟩ := by unfold Addr.add; split <;> simp_all
  rw [hadd, World.cell?_alloc_at _ _ _ _ rfl]
  have e : ∀ x : Nat, (UInt8.ofNat (x % 256)).toNat = x % 256 := fun x => Pk.toNat_ofNat (Nat.mod_lt _ (by decide))
  have h8 : j < 8 := hj
  match j, h8 with
  | 0, _ => show some (Value.int .u8 ((n : Int) / 72057594037927936)) = some (.int .u8 ((UInt8.ofNat (n / 72057594037927936 % 256)).toNat : Int)); rw [e]; congr 2; omega
  | 1, _ => show some (Value.int .u8 ((n : Int) / 281474976710656 % 256)) = some (.int .u8 ((UInt8.ofNat (n / 281474976710656 % 256)).toNat : Int)); rw [e]; congr 2
  | 2, _ => show some (Value.int .u8 ((n : Int) / 1099511627776 % 256)) = some (.int .u8 ((UInt8.ofNat (n / 1099511627776 % 256)).toNat : Int)); rw [e]; congr 2
  | 3, _ => show some (Value.int .u8 ((n : Int) / 4294967296 % 256)) = some (.int .u8 ((UInt8.ofNat (n / 4294967296 % 256)).toNat : Int)); rw [e]; congr 2
  | 4, _ => show some (Value.int .u8 ((n : Int) / 16777216 % 256)) = some (.int .u8 ((UInt8.ofNat (n / 16777216 % 256)).toNat : Int)); rw [e]; congr 2
  | 5, _ => show some (Value.int .u8 ((n : Int) / 65536 % 256)) = some (.int .u8 ((UInt8.ofNat (n / 65536 % 256)).toNat : Int)); rw [e]; congr 2
  | 6, _ => show some (Value.int .u8 ((n : Int) / 256 % 256)) = some (.int .u8 ((UInt8.ofNat (n / 256 % 256)).toNat : Int)); rw [e]; congr 2
  | 7, _ => show some (Value.int .u8 ((n : Int) % 256)) = some (.int .u8 ((UInt8.ofNat (n % 256)).toNat : Int)); rw [e]; congr 2

set_option maxHeartbeats 1600000 in
set_option maxRecDepth 8000 in
theorem pbits_any (n : Nat) (hn : n < 18446744073709551616) (w : World) :
    Calls Try.prog 74 #[.int .u64 (n : Int)] w fun e w' => e = .returned (.string ⟨(Pk.big8 n).toArray⟩) ∧ Below w.heap.size w w' := by
  have hcv := run_convert_bytes_back _ _ _ _ (⟨w.heap.size, 0, none⟩ : Addr) 8 (Pk.big8 n) Try.underlying86 Try.underlying5 Try.underlying9 (big8_cell n hn w)
  rw [show (Pk.big8 n).length = 8 from rfl] at hcv
  generalize (⟨(Pk.big8 n).toArray⟩ : ByteArray) = t at *
  go_enter Try.func74, Try.ntmps74
  go_wp2
  refine wp_loop_rounds 9 ?_
  rw [rounds_succ]; go_wp2
  rw [rounds_succ]; go_wp2
  rw [rounds_succ]; go_wp2
  rw [rounds_succ]; go_wp2
  rw [rounds_succ]; go_wp2
  rw [rounds_succ]; go_wp2
  rw [rounds_succ]; go_wp2
  rw [rounds_succ]; go_wp2
  rw [rounds_succ]; go_wp2
  go_ret
  exact ⟨rfl, below_alloc _ _⟩
end Go.Proofs.Ytapcmmljdpallaa
