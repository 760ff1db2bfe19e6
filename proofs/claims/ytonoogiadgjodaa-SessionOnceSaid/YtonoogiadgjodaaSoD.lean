import Derived.Test.YtonoogiadgjodaaSoC
import Derived.Laws.IdiomStrings
namespace Go.Proofs.Ytonoogiadgjodaa
open Go.RowKit

section
variable {B : Nat} {w w' : World} {A : Ja} {j : Jt}
theorem w64 (n : Int) (h : -9223372036854775808 ≤ n ∧ n ≤ 9223372036854775807) : wrap64 n = n := by unfold wrap64; omega
def pl3 (a b c : UInt8) : Nat → Nat
  | 0 => 0
  | 1 => a.toNat
  | 2 => 256 * a.toNat + b.toNat
  | _ => 256 * (256 * a.toNat + b.toNat) + c.toNat
set_option maxHeartbeats 2000000 in
theorem place3_any (a b c : UInt8) (w : World) : Calls Try.prog 61 #[.string ⟨#[a, b, c]⟩] w fun e w' => e = .returned (.int .i64 ((65536 * a.toNat + 256 * b.toNat + c.toNat : Nat) : Int)) ∧ Below w.heap.size w w' := by
  have ha := UInt8.toNat_lt a
  have hb := UInt8.toNat_lt b
  have hc := UInt8.toNat_lt c
  go_enter Try.func61, Try.ntmps61
  go_wp2_with fail
  go_loopw [3, 4] (fun v u wr => ∃ k : Nat, k ≤ 3 ∧ u = .int .i64 (k : Int) ∧ v = .int .i64 (pl3 a b c k : Int) ∧ Hid (Below w.heap.size w wr)) (fun _ u _ => 3 - (intOf u).toNat)
  case atStart => exact ⟨0, by omega, rfl, rfl, hide (Below.refl _ _)⟩
  case round =>
    obtain ⟨k, hk, rfl, rfl, HB⟩ := hrel
    obtain rfl | rfl | rfl | rfl : k = 0 ∨ k = 1 ∨ k = 2 ∨ k = 3 := by omega
    · simp only [pl3]
      go_wp2_with fail
      go_roundw
      case rel => exact ⟨1, by omega, by go_num, by simp; show wrap64 (wrap64 (a.toNat : Int)) = (a.toNat : Int); rw [w64 (a.toNat : Int) (by omega), w64 _ (by omega)], HB⟩
      case measure => simp only [intOf]; omega
    · simp only [pl3]
      go_wp2_with fail
      go_roundw
      case rel => exact ⟨2, by omega, by go_num, by show Value.int .i64 (wrap64 (256 * (a.toNat : Int) + wrap64 (b.toNat : Int))) = Value.int .i64 ((256 * a.toNat + b.toNat : Nat) : Int); rw [w64 (b.toNat : Int) (by omega), w64 _ (by omega)]; congr 1, HB⟩
      case measure => simp only [intOf]; omega
    · simp only [pl3]
      go_wp2_with fail
      go_roundw
      case rel => exact ⟨3, by omega, by go_num, by show Value.int .i64 (wrap64 (256 * (256 * (a.toNat : Int) + (b.toNat : Int)) + wrap64 (c.toNat : Int))) = Value.int .i64 ((256 * (256 * a.toNat + b.toNat) + c.toNat : Nat) : Int); rw [w64 (c.toNat : Int) (by omega), w64 _ (by omega)]; congr 1, HB⟩
      case measure => simp only [intOf]; omega
    · simp only [pl3]
      go_wp2_with fail
      go_ret
      refine ⟨?_, HB.out⟩
      have e : 256 * (256 * a.toNat + b.toNat) + c.toNat = 65536 * a.toNat + 256 * b.toNat + c.toNat := by omega
      rw [← e]
      rfl
theorem place_txt (n : Nat) (hn : n < 16777216) (w : World) : Calls Try.prog 61 #[.string (txt n)] w fun e w' => e = .returned (.int .i64 (n : Int)) ∧ Below w.heap.size w w' := by
  refine (place3_any _ _ _ w).mono ?_
  rintro e w1 ⟨rfl, hb⟩
  refine ⟨?_, hb⟩
  congr 3
  simp only [UInt8.toNat_ofNat', Nat.toUInt8]
  omega
set_option maxHeartbeats 2000000 in
set_option maxRecDepth 8000 in
theorem text_any (n : Nat) (hn : n < 16777216) (w : World) : Calls Try.prog 63 #[.int .i64 (n : Int)] w fun e w' => e = .returned (.string (txt n)) ∧ Below w.heap.size w w' := by
  have hcv : (convert 118 9 (.slice (some ⟨w.heap.size, 0, none⟩) 3 3)).run Try.prog (w.alloc (.cells #[.int .u8 ((n : Int) / 65536), .int .u8 ((n : Int) / 256 % 256), .int .u8 ((n : Int) % 256)] 5)) = .ok (.string (txt n)) (w.alloc (.cells #[.int .u8 ((n : Int) / 65536), .int .u8 ((n : Int) / 256 % 256), .int .u8 ((n : Int) % 256)] 5)) := by
    have e := run_convert_bytes_back (P := Try.prog) (w.alloc (.cells #[.int .u8 ((n : Int) / 65536), .int .u8 ((n : Int) / 256 % 256), .int .u8 ((n : Int) % 256)] 5)) 118 9 5 ⟨w.heap.size, 0, none⟩ 3 [(n / 65536 % 256).toUInt8, (n / 256 % 256).toUInt8, (n % 256).toUInt8] Try.underlying118 Try.underlying5 Try.underlying9 (fun j hj => by
      have hx := heap_alloc_new w (.cells #[.int .u8 ((n : Int) / 65536), .int .u8 ((n : Int) / 256 % 256), .int .u8 ((n : Int) % 256)] 5)
      have hj : j < 3 := hj
      obtain rfl | rfl | rfl : j = 0 ∨ j = 1 ∨ j = 2 := by omega
      · show World.cell? _ ⟨w.heap.size, 0, none⟩ = _; unfold World.cell?; simp only [hx]; simp [Nat.toUInt8]; omega
      · show World.cell? _ ⟨w.heap.size, 1, none⟩ = _; unfold World.cell?; simp only [hx]; simp [Nat.toUInt8]
      · show World.cell? _ ⟨w.heap.size, 2, none⟩ = _; unfold World.cell?; simp only [hx]; simp [Nat.toUInt8])
    exact e
  go_enter Try.func63, Try.ntmps63
  go_wp2_with fail
  go_ret
  exact ⟨rfl, below_alloc _ _⟩
/-- the answer to a request -/
def rpl (x : Sd) (an : Int) : Sd := ⟨{ zS (if x.m.k = 4 then 13 else if x.m.k = 3 then 11 else 10) with se := x.m.se, nu := x.m.nu }, false, x.li, 0, an⟩
set_option maxHeartbeats 1000000 in
set_option maxRecDepth 8000 in
theorem reply_any (h : Jm B w A j) (hB : B ≤ w.heap.size) (hl : j.way.length ≤ 4194304) (x : Sd) (an : Int) : Calls Try.prog 60 #[.pointer (some ⟨A.a, 0, none⟩), .agg #[.int .i64 x.m.k, .int .i64 x.m.se, .int .i64 x.m.nu, .int .i64 x.m.jo, .int .i64 x.m.ba, .int .i64 x.m.ix, .int .i64 x.m.co, .int .i64 x.m.rc, .int .u64 (x.m.rb : Int), .string x.m.tx, .string x.m.pr, .bool x.tb, .int .i64 x.li, .int .i64 x.ak, .int .i64 x.an], .int .i64 an] w fun e w' => e = .returned (.tuple #[]) ∧ JPost B w A (j.say (rpl x an)) w' := by
  have HM := hide ((h.below (below_alloc w (.cells #[.int .i64 x.m.k, .int .i64 x.m.se, .int .i64 x.m.nu, .int .i64 x.m.jo, .int .i64 x.m.ba, .int .i64 x.m.ix, .int .i64 x.m.co, .int .i64 x.m.rc, .int .u64 (x.m.rb : Int), .string x.m.tx, .string x.m.pr, .bool x.tb, .int .i64 x.li, .int .i64 x.ak, .int .i64 x.an] 103))).below (below_alloc _ (.cells #[.int .i64 x.m.k, .int .i64 x.m.se, .int .i64 x.m.nu, .int .i64 x.m.jo, .int .i64 x.m.ba, .int .i64 x.m.ix, .int .i64 x.m.co, .int .i64 x.m.rc, .int .u64 (x.m.rb : Int), .string x.m.tx, .string x.m.pr] 36)))
  have HJ : Hid (Jv A A w ((w.alloc (.cells #[.int .i64 x.m.k, .int .i64 x.m.se, .int .i64 x.m.nu, .int .i64 x.m.jo, .int .i64 x.m.ba, .int .i64 x.m.ix, .int .i64 x.m.co, .int .i64 x.m.rc, .int .u64 (x.m.rb : Int), .string x.m.tx, .string x.m.pr, .bool x.tb, .int .i64 x.li, .int .i64 x.ak, .int .i64 x.an] 103)).alloc (.cells #[.int .i64 x.m.k, .int .i64 x.m.se, .int .i64 x.m.nu, .int .i64 x.m.jo, .int .i64 x.m.ba, .int .i64 x.m.ix, .int .i64 x.m.co, .int .i64 x.m.rc, .int .u64 (x.m.rb : Int), .string x.m.tx, .string x.m.pr] 36))) := hide (Jv.of_below ((below_alloc w _).alloc (by rw [World.size_alloc]; omega) _))
  have HWL := hide hl
  have HBS : Hid (B ≤ ((w.alloc (.cells #[.int .i64 x.m.k, .int .i64 x.m.se, .int .i64 x.m.nu, .int .i64 x.m.jo, .int .i64 x.m.ba, .int .i64 x.m.ix, .int .i64 x.m.co, .int .i64 x.m.rc, .int .u64 (x.m.rb : Int), .string x.m.tx, .string x.m.pr, .bool x.tb, .int .i64 x.li, .int .i64 x.ak, .int .i64 x.an] 103)).alloc (.cells #[.int .i64 x.m.k, .int .i64 x.m.se, .int .i64 x.m.nu, .int .i64 x.m.jo, .int .i64 x.m.ba, .int .i64 x.m.ix, .int .i64 x.m.co, .int .i64 x.m.rc, .int .u64 (x.m.rb : Int), .string x.m.tx, .string x.m.pr] 36)).heap.size) := hide (by rw [World.size_alloc, World.size_alloc]; omega)
  have hRp : rpl x an = ⟨{ zS (if x.m.k = 4 then 13 else if x.m.k = 3 then 11 else 10) with se := x.m.se, nu := x.m.nu }, false, x.li, 0, an⟩ := rfl
  clear h hl hB
  by_cases h3 : x.m.k = 3
  · have b3 : (x.m.k == 3) = true := by simp; omega
    have b4 : (x.m.k == 4) = false := by simp; omega
    rw [if_neg (by omega), if_pos h3] at hRp
    clear h3
    rw [hRp]
    clear hRp
    go_enter Try.func60, Try.ntmps60
    go_wp2_with fail
    generalize ((w.alloc (.cells #[.int .i64 x.m.k, .int .i64 x.m.se, .int .i64 x.m.nu, .int .i64 x.m.jo, .int .i64 x.m.ba, .int .i64 x.m.ix, .int .i64 x.m.co, .int .i64 x.m.rc, .int .u64 (x.m.rb : Int), .string x.m.tx, .string x.m.pr, .bool x.tb, .int .i64 x.li, .int .i64 x.ak, .int .i64 x.an] 103)).alloc (.cells #[.int .i64 x.m.k, .int .i64 x.m.se, .int .i64 x.m.nu, .int .i64 x.m.jo, .int .i64 x.m.ba, .int .i64 x.m.ix, .int .i64 x.m.co, .int .i64 x.m.rc, .int .u64 (x.m.rb : Int), .string x.m.tx, .string x.m.pr] 36)) = W at *
    have HS := hide (say_any HM.out HBS.out HWL.out ⟨{ zS 11 with se := x.m.se, nu := x.m.nu }, false, x.li, 0, an⟩)
    simp only [zS, e0] at HS
    rw [show ((0 : Nat) : Int) = 0 from rfl] at HS
    refine HS.out.mono ?_
    clear HS
    rintro e w1 ⟨rfl, A', h1, h2, h3⟩
    have HF := hide (show JPost B w A (j.say ⟨{ zS 11 with se := x.m.se, nu := x.m.nu }, false, x.li, 0, an⟩) w1 from ⟨A', h1, h2, HJ.out.trans h3⟩)
    clear h1 h2 h3
    go_wp2_with fail
    go_end0
    exact ⟨rfl, HF.out⟩
  by_cases h4 : x.m.k = 4
  · have b3 : (x.m.k == 3) = false := by simp; omega
    have b4 : (x.m.k == 4) = true := by simp; omega
    rw [if_pos h4] at hRp
    clear h3 h4
    rw [hRp]
    clear hRp
    go_enter Try.func60, Try.ntmps60
    go_wp2_with fail
    generalize ((w.alloc (.cells #[.int .i64 x.m.k, .int .i64 x.m.se, .int .i64 x.m.nu, .int .i64 x.m.jo, .int .i64 x.m.ba, .int .i64 x.m.ix, .int .i64 x.m.co, .int .i64 x.m.rc, .int .u64 (x.m.rb : Int), .string x.m.tx, .string x.m.pr, .bool x.tb, .int .i64 x.li, .int .i64 x.ak, .int .i64 x.an] 103)).alloc (.cells #[.int .i64 x.m.k, .int .i64 x.m.se, .int .i64 x.m.nu, .int .i64 x.m.jo, .int .i64 x.m.ba, .int .i64 x.m.ix, .int .i64 x.m.co, .int .i64 x.m.rc, .int .u64 (x.m.rb : Int), .string x.m.tx, .string x.m.pr] 36)) = W at *
    have HS := hide (say_any HM.out HBS.out HWL.out ⟨{ zS 13 with se := x.m.se, nu := x.m.nu }, false, x.li, 0, an⟩)
    simp only [zS, e0] at HS
    rw [show ((0 : Nat) : Int) = 0 from rfl] at HS
    refine HS.out.mono ?_
    clear HS
    rintro e w1 ⟨rfl, A', h1, h2, h3⟩
    have HF := hide (show JPost B w A (j.say ⟨{ zS 13 with se := x.m.se, nu := x.m.nu }, false, x.li, 0, an⟩) w1 from ⟨A', h1, h2, HJ.out.trans h3⟩)
    clear h1 h2 h3
    go_wp2_with fail
    go_end0
    exact ⟨rfl, HF.out⟩
  · have b3 : (x.m.k == 3) = false := by simp; omega
    have b4 : (x.m.k == 4) = false := by simp; omega
    rw [if_neg h4, if_neg h3] at hRp
    clear h3 h4
    rw [hRp]
    clear hRp
    go_enter Try.func60, Try.ntmps60
    go_wp2_with fail
    generalize ((w.alloc (.cells #[.int .i64 x.m.k, .int .i64 x.m.se, .int .i64 x.m.nu, .int .i64 x.m.jo, .int .i64 x.m.ba, .int .i64 x.m.ix, .int .i64 x.m.co, .int .i64 x.m.rc, .int .u64 (x.m.rb : Int), .string x.m.tx, .string x.m.pr, .bool x.tb, .int .i64 x.li, .int .i64 x.ak, .int .i64 x.an] 103)).alloc (.cells #[.int .i64 x.m.k, .int .i64 x.m.se, .int .i64 x.m.nu, .int .i64 x.m.jo, .int .i64 x.m.ba, .int .i64 x.m.ix, .int .i64 x.m.co, .int .i64 x.m.rc, .int .u64 (x.m.rb : Int), .string x.m.tx, .string x.m.pr] 36)) = W at *
    have HS := hide (say_any HM.out HBS.out HWL.out ⟨{ zS 10 with se := x.m.se, nu := x.m.nu }, false, x.li, 0, an⟩)
    simp only [zS, e0] at HS
    rw [show ((0 : Nat) : Int) = 0 from rfl] at HS
    refine HS.out.mono ?_
    clear HS
    rintro e w1 ⟨rfl, A', h1, h2, h3⟩
    have HF := hide (show JPost B w A (j.say ⟨{ zS 10 with se := x.m.se, nu := x.m.nu }, false, x.li, 0, an⟩) w1 from ⟨A', h1, h2, HJ.out.trans h3⟩)
    clear h1 h2 h3
    go_wp2_with fail
    go_end0
    exact ⟨rfl, HF.out⟩
end
end Go.Proofs.Ytonoogiadgjodaa
