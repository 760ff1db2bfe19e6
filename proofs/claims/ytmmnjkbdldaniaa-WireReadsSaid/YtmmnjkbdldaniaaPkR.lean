import Derived.Test.YtmmnjkbdldaniaaPkQ
namespace Go.Proofs.Ytmmnjkbdldaniaa
open Go.RowKit

theorem big8_bc (n : Nat) (hn : n < 18446744073709551616) : bc (Pk.big8 n) = [.int .u8 ((n : Int) / 72057594037927936), .int .u8 ((n : Int) / 281474976710656 % 256), .int .u8 ((n : Int) / 1099511627776 % 256), .int .u8 ((n : Int) / 4294967296 % 256), .int .u8 ((n : Int) / 16777216 % 256), .int .u8 ((n : Int) / 65536 % 256), .int .u8 ((n : Int) / 256 % 256), .int .u8 ((n : Int) % 256)] := by
  have e : ∀ x : Nat, (UInt8.ofNat (x % 256)).toNat = x % 256 := fun x => Pk.toNat_ofNat (Nat.mod_lt _ (by decide))
  simp only [bc, Pk.big8, List.map_cons, List.map_nil, e]
  have e0 : ((n / 72057594037927936 % 256 : Nat) : Int) = (n : Int) / 72057594037927936 := by omega
  rw [e0]
  rfl

set_option maxHeartbeats 1600000 in
set_option maxRecDepth 8000 in
theorem qbits_any (n : Nat) (hn : n < 18446744073709551616) (w : World) :
    Calls Try.prog 26 #[.int .u64 (n : Int)] w fun e w' => e = .returned (.string ⟨(Pk.big8 n).toArray⟩) ∧ Below w.heap.size w w' := by
  obtain ⟨i0, hi, hz0, hz1, hz2⟩ := info_parts Try.infoB
  have HBC : Hid (bc (Pk.big8 n) = [.int .u8 ((n : Int) / 72057594037927936), .int .u8 ((n : Int) / 281474976710656 % 256), .int .u8 ((n : Int) / 1099511627776 % 256), .int .u8 ((n : Int) / 4294967296 % 256), .int .u8 ((n : Int) / 16777216 % 256), .int .u8 ((n : Int) / 65536 % 256), .int .u8 ((n : Int) / 256 % 256), .int .u8 ((n : Int) % 256)]) := big8_bc n hn
  go_enter Try.func26, Try.ntmps26
  go_wp2
  have hown0 : (w.alloc (.cells #[] 5)).ownsRow w.heap.size 5 1 (.slice (some ⟨w.heap.size, 0, none⟩) 0 0) 0 [] := World.ownsRow_made w #[] 0 (Nat.le_refl _) (by decide) rfl
  have hb0 : Below w.heap.size w (w.alloc (.cells #[] 5)) := below_alloc _ _
  generalize hw0 : w.alloc (.cells #[] 5) = w0 at *
  clear hw0
  refine wp_loop_rounds 9 ?_
  rw [rounds_succ]
  go_wp2_with (first
    | (at_builtin; refine wpList_append_own _ rfl _ _ 53 rfl w.heap.size 5 i0 (.int .u8 0) 1 1 Try.underlying53 hi hz0 hz1 hz2 rfl (by decide) _ _ _ rfl (hown0.alloc _) ⟨w0.heap.size, 0, none⟩ 1 1 [.int .u8 ((n : Int) / 72057594037927936)] rfl rfl (one_new _ _ _) (by intro u hu; simp at hu; subst hu; rfl) (by decide) (by decide) (by have := hb0.size; simp; omega) ?_; intro v1 w1 hown1 hgrow hnil; clear hnil; have hb1 : Below w.heap.size w w1 := grow_below (Nat.le_refl _) hb0 hown0 _ hgrow; clear hgrow hb0 hown0)
    | go_in)
  rw [rounds_succ]
  go_wp2_with (first
    | (at_builtin; refine wpList_append_own _ rfl _ _ 53 rfl w.heap.size 5 i0 (.int .u8 0) 1 1 Try.underlying53 hi hz0 hz1 hz2 rfl (by decide) _ _ _ rfl (hown1.alloc _) ⟨w1.heap.size, 0, none⟩ 1 1 [.int .u8 ((n : Int) / 281474976710656 % 256)] rfl rfl (one_new _ _ _) (by intro u hu; simp at hu; subst hu; rfl) (by decide) (by decide) (by have := hb1.size; simp; omega) ?_; intro v2 w2 hown2 hgrow hnil; clear hnil; have hb2 : Below w.heap.size w w2 := grow_below (Nat.le_refl _) hb1 hown1 _ hgrow; clear hgrow hb1 hown1)
    | go_in)
  rw [rounds_succ]
  go_wp2_with (first
    | (at_builtin; refine wpList_append_own _ rfl _ _ 53 rfl w.heap.size 5 i0 (.int .u8 0) 1 1 Try.underlying53 hi hz0 hz1 hz2 rfl (by decide) _ _ _ rfl (hown2.alloc _) ⟨w2.heap.size, 0, none⟩ 1 1 [.int .u8 ((n : Int) / 1099511627776 % 256)] rfl rfl (one_new _ _ _) (by intro u hu; simp at hu; subst hu; rfl) (by decide) (by decide) (by have := hb2.size; simp; omega) ?_; intro v3 w3 hown3 hgrow hnil; clear hnil; have hb3 : Below w.heap.size w w3 := grow_below (Nat.le_refl _) hb2 hown2 _ hgrow; clear hgrow hb2 hown2)
    | go_in)
  rw [rounds_succ]
  go_wp2_with (first
    | (at_builtin; refine wpList_append_own _ rfl _ _ 53 rfl w.heap.size 5 i0 (.int .u8 0) 1 1 Try.underlying53 hi hz0 hz1 hz2 rfl (by decide) _ _ _ rfl (hown3.alloc _) ⟨w3.heap.size, 0, none⟩ 1 1 [.int .u8 ((n : Int) / 4294967296 % 256)] rfl rfl (one_new _ _ _) (by intro u hu; simp at hu; subst hu; rfl) (by decide) (by decide) (by have := hb3.size; simp; omega) ?_; intro v4 w4 hown4 hgrow hnil; clear hnil; have hb4 : Below w.heap.size w w4 := grow_below (Nat.le_refl _) hb3 hown3 _ hgrow; clear hgrow hb3 hown3)
    | go_in)
  rw [rounds_succ]
  go_wp2_with (first
    | (at_builtin; refine wpList_append_own _ rfl _ _ 53 rfl w.heap.size 5 i0 (.int .u8 0) 1 1 Try.underlying53 hi hz0 hz1 hz2 rfl (by decide) _ _ _ rfl (hown4.alloc _) ⟨w4.heap.size, 0, none⟩ 1 1 [.int .u8 ((n : Int) / 16777216 % 256)] rfl rfl (one_new _ _ _) (by intro u hu; simp at hu; subst hu; rfl) (by decide) (by decide) (by have := hb4.size; simp; omega) ?_; intro v5 w5 hown5 hgrow hnil; clear hnil; have hb5 : Below w.heap.size w w5 := grow_below (Nat.le_refl _) hb4 hown4 _ hgrow; clear hgrow hb4 hown4)
    | go_in)
  rw [rounds_succ]
  go_wp2_with (first
    | (at_builtin; refine wpList_append_own _ rfl _ _ 53 rfl w.heap.size 5 i0 (.int .u8 0) 1 1 Try.underlying53 hi hz0 hz1 hz2 rfl (by decide) _ _ _ rfl (hown5.alloc _) ⟨w5.heap.size, 0, none⟩ 1 1 [.int .u8 ((n : Int) / 65536 % 256)] rfl rfl (one_new _ _ _) (by intro u hu; simp at hu; subst hu; rfl) (by decide) (by decide) (by have := hb5.size; simp; omega) ?_; intro v6 w6 hown6 hgrow hnil; clear hnil; have hb6 : Below w.heap.size w w6 := grow_below (Nat.le_refl _) hb5 hown5 _ hgrow; clear hgrow hb5 hown5)
    | go_in)
  rw [rounds_succ]
  go_wp2_with (first
    | (at_builtin; refine wpList_append_own _ rfl _ _ 53 rfl w.heap.size 5 i0 (.int .u8 0) 1 1 Try.underlying53 hi hz0 hz1 hz2 rfl (by decide) _ _ _ rfl (hown6.alloc _) ⟨w6.heap.size, 0, none⟩ 1 1 [.int .u8 ((n : Int) / 256 % 256)] rfl rfl (one_new _ _ _) (by intro u hu; simp at hu; subst hu; rfl) (by decide) (by decide) (by have := hb6.size; simp; omega) ?_; intro v7 w7 hown7 hgrow hnil; clear hnil; have hb7 : Below w.heap.size w w7 := grow_below (Nat.le_refl _) hb6 hown6 _ hgrow; clear hgrow hb6 hown6)
    | go_in)
  rw [rounds_succ]
  go_wp2_with (first
    | (at_builtin; refine wpList_append_own _ rfl _ _ 53 rfl w.heap.size 5 i0 (.int .u8 0) 1 1 Try.underlying53 hi hz0 hz1 hz2 rfl (by decide) _ _ _ rfl (hown7.alloc _) ⟨w7.heap.size, 0, none⟩ 1 1 [.int .u8 ((n : Int) % 256)] rfl rfl (one_new _ _ _) (by intro u hu; simp at hu; subst hu; rfl) (by decide) (by decide) (by have := hb7.size; simp; omega) ?_; intro v8 w8 hown8 hgrow hnil; clear hnil; have hb8 : Below w.heap.size w w8 := grow_below (Nat.le_refl _) hb7 hown7 _ hgrow; clear hgrow hb7 hown7)
    | go_in)
  have hcv : (convert 53 9 v8).run Try.prog w8 = .ok (.string ⟨(Pk.big8 n).toArray⟩) w8 := own_str (base := w.heap.size) (l := Pk.big8 n) (by rw [HBC.out]; exact hown8)
  clear hown8
  rw [rounds_succ]
  go_wp2
  go_ret
  exact ⟨rfl, hb8⟩

end Go.Proofs.Ytmmnjkbdldaniaa
