import Derived.Test.YtpgehocadohkiaaGreatDoorMgBD

section
namespace Go.Proofs.YtpgehocadohkiaaGreatDoor
open Go.RowKit Go.Shelf

set_option maxHeartbeats 400000 in
theorem iless_any (b c : Nat) (w : World) : Calls Tryz.prog 132 #[.int .u64 (b : Int), .int .u64 (c : Int)] w fun e w' => e = .returned (.int .u64 ((if ltW b c = true then ofW 1 else ofW 0 : Nat) : Int)) ∧ ∃ n, w' = w.drewN n := by
  have HL := hide (less_any b c)
  have H1 := hide (of_any 1)
  have H0 := hide (of_any 0)
  by_cases hc : ltW b c = true
  · rw [if_pos hc]
    rw [hc] at HL
    generalize ofW 1 = o at *
    go_enter Tryz.func132, Tryz.ntmps132
    go_wp2_with (first | (go_at_call 172; refine (HL.out _).mono ?_; rintro e w1 ⟨rfl, rfl⟩) | (go_at_call 173; refine (H1.out _).mono ?_; rintro e w1 ⟨rfl, rfl⟩))
    go_ret
    exact ⟨rfl, 0, rfl⟩
  · rw [if_neg hc]
    rw [Bool.not_eq_true] at hc
    rw [hc] at HL
    generalize ofW 0 = o at *
    go_enter Tryz.func132, Tryz.ntmps132
    go_wp2_with (first | (go_at_call 172; refine (HL.out _).mono ?_; rintro e w1 ⟨rfl, rfl⟩) | (go_at_call 173; refine (H0.out _).mono ?_; rintro e w1 ⟨rfl, rfl⟩))
    go_ret
    exact ⟨rfl, 0, rfl⟩
set_option maxHeartbeats 400000 in
theorem iorder_any (b c : Nat) (hb : b < 18446744073709551616) (hc : c < 18446744073709551616) (w : World) : Calls Tryz.prog 133 #[.int .u64 (b : Int), .int .u64 (c : Int)] w fun e w' => e = .returned (.int .u64 ((ofW (ordW b c) : Nat) : Int)) ∧ ∃ n, w' = w.drewN n := by
  have HL := hide (order_any b c hb hc)
  have H1 := hide (of_any (ordW b c))
  have hr : -1 ≤ ordW b c ∧ ordW b c ≤ 1 := by unfold ordW cmpW; split; omega; split <;> omega
  generalize ordW b c = q at *
  generalize ofW q = o at *
  go_enter Tryz.func133, Tryz.ntmps133
  go_wp2_with (first | (go_at_call 171; refine (HL.out _).mono ?_; rintro e w1 ⟨rfl, rfl⟩) | (go_at_call 173; refine (H1.out _).mono ?_; rintro e w1 ⟨rfl, rfl⟩))
  go_ret
  exact ⟨rfl, 0, rfl⟩
theorem isame_any (b : Nat) (w : World) : Calls Tryz.prog 125 #[.int .u64 (b : Int)] w fun e w' => e = .returned (.int .u64 (b : Int)) ∧ ∃ n, w' = w.drewN n := by
  go_enter Tryz.func125, Tryz.ntmps125
  go_wp2
  go_ret
  exact ⟨rfl, 0, rfl⟩
theorem drew_of {P : Program} {f : FuncId} {l : Array Value} {w : World} {u : Value} (h : Calls P f l w fun e w' => e = .returned u ∧ w' = w) : Calls P f l w fun e w' => e = .returned u ∧ ∃ n, w' = w.drewN n :=
  h.mono (fun _ _ ⟨h1, h2⟩ => ⟨h1, 0, h2⟩)
theorem apost_of {w : World} {B fuel : Nat} {m : Mc} {v : Value} {f : FuncId} {l : Array Value} (h : Calls Tryz.prog f l w fun e w' => e = .returned noAct ∧ Mb w' B m v fuel ∧ w.grownBy w' (some B)) : Calls Tryz.prog f l w (APost w B v fuel (0, m, 0, ByteArray.empty)) :=
  h.mono (fun _ _ ⟨h1, h2, h3⟩ => ⟨fun _ => h1, fun h0 => absurd rfl h0, h2, h3⟩)
theorem mean_1 : MeanAt 1 .nilFunc .nilFunc (.func (.func 124) #[] #[]) := fun _ => by kernel_rfl
theorem mean_2 : MeanAt 2 (.func (.func 125) #[] #[]) .nilFunc .nilFunc := fun _ => by kernel_rfl
theorem mean_3 : MeanAt 3 .nilFunc (.func (.func 126) #[] #[]) .nilFunc := fun _ => by kernel_rfl
theorem mean_4 : MeanAt 4 .nilFunc (.func (.func 127) #[] #[]) .nilFunc := fun _ => by kernel_rfl
theorem mean_5 : MeanAt 5 .nilFunc (.func (.func 128) #[] #[]) .nilFunc := fun _ => by kernel_rfl
theorem mean_6 : MeanAt 6 .nilFunc (.func (.func 129) #[] #[]) .nilFunc := fun _ => by kernel_rfl
theorem mean_7 : MeanAt 7 .nilFunc (.func (.func 130) #[] #[]) .nilFunc := fun _ => by kernel_rfl
theorem mean_8 : MeanAt 8 .nilFunc (.func (.func 131) #[] #[]) .nilFunc := fun _ => by kernel_rfl
theorem mean_9 : MeanAt 9 .nilFunc (.func (.func 132) #[] #[]) .nilFunc := fun _ => by kernel_rfl
theorem mean_10 : MeanAt 10 .nilFunc (.func (.func 133) #[] #[]) .nilFunc := fun _ => by kernel_rfl
theorem mean_11 : MeanAt 11 (.func (.func 134) #[] #[]) .nilFunc .nilFunc := fun _ => by kernel_rfl
theorem mean_12 : MeanAt 12 (.func (.func 135) #[] #[]) .nilFunc .nilFunc := fun _ => by kernel_rfl
theorem mean_13 : MeanAt 13 (.func (.func 136) #[] #[]) .nilFunc .nilFunc := fun _ => by kernel_rfl
theorem mean_14 : MeanAt 14 .nilFunc .nilFunc (.func (.func 137) #[] #[]) := fun _ => by kernel_rfl
theorem mean_15 : MeanAt 15 .nilFunc .nilFunc (.func (.func 138) #[] #[]) := fun _ => by kernel_rfl
theorem mean_16 : MeanAt 16 .nilFunc .nilFunc (.func (.func 139) #[] #[]) := fun _ => by kernel_rfl
theorem mean_17 : MeanAt 17 .nilFunc .nilFunc (.func (.func 140) #[] #[]) := fun _ => by kernel_rfl
theorem mean_18 : MeanAt 18 .nilFunc .nilFunc (.func (.func 141) #[] #[]) := fun _ => by kernel_rfl
theorem mean_19 : MeanAt 19 .nilFunc .nilFunc (.func (.func 142) #[] #[]) := fun _ => by kernel_rfl
theorem mean_20 : MeanAt 20 .nilFunc .nilFunc (.func (.func 143) #[] #[]) := fun _ => by kernel_rfl
theorem mean_21 : MeanAt 21 .nilFunc .nilFunc (.func (.func 144) #[] #[]) := fun _ => by kernel_rfl
theorem mean_22 : MeanAt 22 .nilFunc .nilFunc (.func (.func 145) #[] #[]) := fun _ => by kernel_rfl
theorem mean_23 : MeanAt 23 .nilFunc .nilFunc (.func (.func 146) #[] #[]) := fun _ => by kernel_rfl
theorem mean_24 : MeanAt 24 .nilFunc .nilFunc (.func (.func 147) #[] #[]) := fun _ => by kernel_rfl
theorem ent_1 (l : Array Value) (w : World) : (callFunc 124 l).run Tryz.prog w = .ok (.enter 124 l) w := by kernel_rfl
theorem ent_2 (l : Array Value) (w : World) : (callFunc 125 l).run Tryz.prog w = .ok (.enter 125 l) w := by kernel_rfl
theorem ent_3 (l : Array Value) (w : World) : (callFunc 126 l).run Tryz.prog w = .ok (.enter 126 l) w := by kernel_rfl
theorem ent_4 (l : Array Value) (w : World) : (callFunc 127 l).run Tryz.prog w = .ok (.enter 127 l) w := by kernel_rfl
theorem ent_5 (l : Array Value) (w : World) : (callFunc 128 l).run Tryz.prog w = .ok (.enter 128 l) w := by kernel_rfl
theorem ent_6 (l : Array Value) (w : World) : (callFunc 129 l).run Tryz.prog w = .ok (.enter 129 l) w := by kernel_rfl
theorem ent_7 (l : Array Value) (w : World) : (callFunc 130 l).run Tryz.prog w = .ok (.enter 130 l) w := by kernel_rfl
theorem ent_8 (l : Array Value) (w : World) : (callFunc 131 l).run Tryz.prog w = .ok (.enter 131 l) w := by kernel_rfl
theorem ent_9 (l : Array Value) (w : World) : (callFunc 132 l).run Tryz.prog w = .ok (.enter 132 l) w := by kernel_rfl
theorem ent_10 (l : Array Value) (w : World) : (callFunc 133 l).run Tryz.prog w = .ok (.enter 133 l) w := by kernel_rfl
theorem ent_11 (l : Array Value) (w : World) : (callFunc 134 l).run Tryz.prog w = .ok (.enter 134 l) w := by kernel_rfl
theorem ent_12 (l : Array Value) (w : World) : (callFunc 135 l).run Tryz.prog w = .ok (.enter 135 l) w := by kernel_rfl
theorem ent_13 (l : Array Value) (w : World) : (callFunc 136 l).run Tryz.prog w = .ok (.enter 136 l) w := by kernel_rfl
theorem ent_14 (l : Array Value) (w : World) : (callFunc 137 l).run Tryz.prog w = .ok (.enter 137 l) w := by kernel_rfl
theorem ent_15 (l : Array Value) (w : World) : (callFunc 138 l).run Tryz.prog w = .ok (.enter 138 l) w := by kernel_rfl
theorem ent_16 (l : Array Value) (w : World) : (callFunc 139 l).run Tryz.prog w = .ok (.enter 139 l) w := by kernel_rfl
theorem ent_17 (l : Array Value) (w : World) : (callFunc 140 l).run Tryz.prog w = .ok (.enter 140 l) w := by kernel_rfl
theorem ent_18 (l : Array Value) (w : World) : (callFunc 141 l).run Tryz.prog w = .ok (.enter 141 l) w := by kernel_rfl
theorem ent_19 (l : Array Value) (w : World) : (callFunc 142 l).run Tryz.prog w = .ok (.enter 142 l) w := by kernel_rfl
theorem ent_20 (l : Array Value) (w : World) : (callFunc 143 l).run Tryz.prog w = .ok (.enter 143 l) w := by kernel_rfl
theorem ent_21 (l : Array Value) (w : World) : (callFunc 144 l).run Tryz.prog w = .ok (.enter 144 l) w := by kernel_rfl
theorem ent_22 (l : Array Value) (w : World) : (callFunc 145 l).run Tryz.prog w = .ok (.enter 145 l) w := by kernel_rfl
theorem ent_23 (l : Array Value) (w : World) : (callFunc 146 l).run Tryz.prog w = .ok (.enter 146 l) w := by kernel_rfl
theorem ent_24 (l : Array Value) (w : World) : (callFunc 147 l).run Tryz.prog w = .ok (.enter 147 l) w := by kernel_rfl
theorem reck_2 (b c : Nat) : Im.reck 2 b c = b := by
  unfold Im.reck
  rw [if_pos rfl]
theorem reck_3 (b c : Nat) : Im.reck 3 b c = Gn.addW b c := by
  unfold Im.reck
  rw [if_neg (by decide), if_pos rfl]
theorem reck_4 (b c : Nat) : Im.reck 4 b c = Gn.subW b c := by
  unfold Im.reck
  rw [if_neg (by decide), if_neg (by decide), if_pos rfl]
theorem reck_5 (b c : Nat) : Im.reck 5 b c = Gn.mulW b c := by
  unfold Im.reck
  rw [if_neg (by decide), if_neg (by decide), if_neg (by decide), if_pos rfl]
theorem reck_6 (b c : Nat) : Im.reck 6 b c = Gn.divW b c := by
  unfold Im.reck
  rw [if_neg (by decide), if_neg (by decide), if_neg (by decide), if_neg (by decide), if_pos rfl]
theorem reck_7 (b c : Nat) : Im.reck 7 b c = minW b c := by
  unfold Im.reck
  rw [if_neg (by decide), if_neg (by decide), if_neg (by decide), if_neg (by decide), if_neg (by decide), if_pos rfl]
theorem reck_8 (b c : Nat) : Im.reck 8 b c = maxW b c := by
  unfold Im.reck
  rw [if_neg (by decide), if_neg (by decide), if_neg (by decide), if_neg (by decide), if_neg (by decide), if_neg (by decide), if_pos rfl]
theorem reck_9 (b c : Nat) : Im.reck 9 b c = (if ltW b c then ofW 1 else ofW 0) := by
  unfold Im.reck
  rw [if_neg (by decide), if_neg (by decide), if_neg (by decide), if_neg (by decide), if_neg (by decide), if_neg (by decide), if_neg (by decide), if_pos rfl]
theorem reck_10 (b c : Nat) : Im.reck 10 b c = ofW (ordW b c) := by
  unfold Im.reck
  rw [if_neg (by decide), if_neg (by decide), if_neg (by decide), if_neg (by decide), if_neg (by decide), if_neg (by decide), if_neg (by decide), if_neg (by decide), if_pos rfl]
theorem reck_11 (b c : Nat) : Im.reck 11 b c = Gn.negW b := by
  unfold Im.reck
  rw [if_neg (by decide), if_neg (by decide), if_neg (by decide), if_neg (by decide), if_neg (by decide), if_neg (by decide), if_neg (by decide), if_neg (by decide), if_neg (by decide), if_pos rfl]
theorem reck_12 (b c : Nat) : Im.reck 12 b c = Gn.absW b := by
  unfold Im.reck
  rw [if_neg (by decide), if_neg (by decide), if_neg (by decide), if_neg (by decide), if_neg (by decide), if_neg (by decide), if_neg (by decide), if_neg (by decide), if_neg (by decide), if_neg (by decide), if_pos rfl]
theorem reck_13 (b c : Nat) : Im.reck 13 b c = floorW b := by
  unfold Im.reck
  rw [if_neg (by decide), if_neg (by decide), if_neg (by decide), if_neg (by decide), if_neg (by decide), if_neg (by decide), if_neg (by decide), if_neg (by decide), if_neg (by decide), if_neg (by decide), if_neg (by decide)]
theorem do_1 (a b c n k : Nat) (ha : a < 8) {w : World} {B fuel many : Nat} {m : Mc} {p : Option Addr} {cap : Nat} (h : Mb w B m (.slice p many cap) fuel)  :
    Calls Tryz.prog 62 #[.pointer (some ⟨B, 0, none⟩), .agg #[.int .i64 1, .int .i64 (a : Int), .int .i64 (b : Int), .int .i64 (c : Int), .int .i64 (n : Int), .int .u64 (k : Int)]] w (APost w B (.slice p many cap) fuel (Im.doM m ⟨1, (a : Int), (b : Int), (c : Int), (n : Int), k⟩ many)) := by
  exact do_does 1 _ mean_1 a b c n k _ h ent_1 (fun w1 h1 g1 => i_set_any 1 a b c n k ha h1)
theorem do_2 (a b c n k : Nat) (ha : a < 8) (hb : b < 8) {w : World} {B fuel many : Nat} {m : Mc} {p : Option Addr} {cap : Nat} (h : Mb w B m (.slice p many cap) fuel)  :
    Calls Tryz.prog 62 #[.pointer (some ⟨B, 0, none⟩), .agg #[.int .i64 2, .int .i64 (a : Int), .int .i64 (b : Int), .int .i64 (c : Int), .int .i64 (n : Int), .int .u64 (k : Int)]] w (APost w B (.slice p many cap) fuel (Im.doM m ⟨2, (a : Int), (b : Int), (c : Int), (n : Int), k⟩ many)) := by
  rw [show Im.doM m ⟨2, (a : Int), (b : Int), (c : Int), (n : Int), k⟩ many = (0, { m with R := m.R.set a (Im.reck 2 m.R[b]! m.R[c]!) }, 0, ByteArray.empty) from rfl, reck_2]
  exact apost_of (do_two 2 _ mean_2 a b c ha hb n k _ _ h rfl ent_2 (fun w1 => isame_any _ w1))
theorem do_3 (a b c n k : Nat) (ha : a < 8) (hb : b < 8) (hc : c < 8) {w : World} {B fuel many : Nat} {m : Mc} {p : Option Addr} {cap : Nat} (h : Mb w B m (.slice p many cap) fuel)  :
    Calls Tryz.prog 62 #[.pointer (some ⟨B, 0, none⟩), .agg #[.int .i64 3, .int .i64 (a : Int), .int .i64 (b : Int), .int .i64 (c : Int), .int .i64 (n : Int), .int .u64 (k : Int)]] w (APost w B (.slice p many cap) fuel (Im.doM m ⟨3, (a : Int), (b : Int), (c : Int), (n : Int), k⟩ many)) := by
  rw [show Im.doM m ⟨3, (a : Int), (b : Int), (c : Int), (n : Int), k⟩ many = (0, { m with R := m.R.set a (Im.reck 3 m.R[b]! m.R[c]!) }, 0, ByteArray.empty) from rfl, reck_3]
  exact apost_of (do_three 3 _ mean_3 a b c ha hb hc n k _ _ _ h rfl rfl ent_3 (fun w1 => add_any _ _ w1))
theorem do_4 (a b c n k : Nat) (ha : a < 8) (hb : b < 8) (hc : c < 8) {w : World} {B fuel many : Nat} {m : Mc} {p : Option Addr} {cap : Nat} (h : Mb w B m (.slice p many cap) fuel) (hR : ∀ i : Nat, m.R[i]! < 18446744073709551616) :
    Calls Tryz.prog 62 #[.pointer (some ⟨B, 0, none⟩), .agg #[.int .i64 4, .int .i64 (a : Int), .int .i64 (b : Int), .int .i64 (c : Int), .int .i64 (n : Int), .int .u64 (k : Int)]] w (APost w B (.slice p many cap) fuel (Im.doM m ⟨4, (a : Int), (b : Int), (c : Int), (n : Int), k⟩ many)) := by
  rw [show Im.doM m ⟨4, (a : Int), (b : Int), (c : Int), (n : Int), k⟩ many = (0, { m with R := m.R.set a (Im.reck 4 m.R[b]! m.R[c]!) }, 0, ByteArray.empty) from rfl, reck_4]
  exact apost_of (do_three 4 _ mean_4 a b c ha hb hc n k _ _ _ h rfl rfl ent_4 (fun w1 => sub_any _ _ (hR c) w1))
theorem do_5 (a b c n k : Nat) (ha : a < 8) (hb : b < 8) (hc : c < 8) {w : World} {B fuel many : Nat} {m : Mc} {p : Option Addr} {cap : Nat} (h : Mb w B m (.slice p many cap) fuel)  :
    Calls Tryz.prog 62 #[.pointer (some ⟨B, 0, none⟩), .agg #[.int .i64 5, .int .i64 (a : Int), .int .i64 (b : Int), .int .i64 (c : Int), .int .i64 (n : Int), .int .u64 (k : Int)]] w (APost w B (.slice p many cap) fuel (Im.doM m ⟨5, (a : Int), (b : Int), (c : Int), (n : Int), k⟩ many)) := by
  rw [show Im.doM m ⟨5, (a : Int), (b : Int), (c : Int), (n : Int), k⟩ many = (0, { m with R := m.R.set a (Im.reck 5 m.R[b]! m.R[c]!) }, 0, ByteArray.empty) from rfl, reck_5]
  exact apost_of (do_three 5 _ mean_5 a b c ha hb hc n k _ _ _ h rfl rfl ent_5 (fun w1 => mul_any _ _ w1))
theorem do_6 (a b c n k : Nat) (ha : a < 8) (hb : b < 8) (hc : c < 8) {w : World} {B fuel many : Nat} {m : Mc} {p : Option Addr} {cap : Nat} (h : Mb w B m (.slice p many cap) fuel)  :
    Calls Tryz.prog 62 #[.pointer (some ⟨B, 0, none⟩), .agg #[.int .i64 6, .int .i64 (a : Int), .int .i64 (b : Int), .int .i64 (c : Int), .int .i64 (n : Int), .int .u64 (k : Int)]] w (APost w B (.slice p many cap) fuel (Im.doM m ⟨6, (a : Int), (b : Int), (c : Int), (n : Int), k⟩ many)) := by
  rw [show Im.doM m ⟨6, (a : Int), (b : Int), (c : Int), (n : Int), k⟩ many = (0, { m with R := m.R.set a (Im.reck 6 m.R[b]! m.R[c]!) }, 0, ByteArray.empty) from rfl, reck_6]
  exact apost_of (do_three 6 _ mean_6 a b c ha hb hc n k _ _ _ h rfl rfl ent_6 (fun w1 => div_any _ _ w1))
theorem do_7 (a b c n k : Nat) (ha : a < 8) (hb : b < 8) (hc : c < 8) {w : World} {B fuel many : Nat} {m : Mc} {p : Option Addr} {cap : Nat} (h : Mb w B m (.slice p many cap) fuel) (hR : ∀ i : Nat, m.R[i]! < 18446744073709551616) :
    Calls Tryz.prog 62 #[.pointer (some ⟨B, 0, none⟩), .agg #[.int .i64 7, .int .i64 (a : Int), .int .i64 (b : Int), .int .i64 (c : Int), .int .i64 (n : Int), .int .u64 (k : Int)]] w (APost w B (.slice p many cap) fuel (Im.doM m ⟨7, (a : Int), (b : Int), (c : Int), (n : Int), k⟩ many)) := by
  rw [show Im.doM m ⟨7, (a : Int), (b : Int), (c : Int), (n : Int), k⟩ many = (0, { m with R := m.R.set a (Im.reck 7 m.R[b]! m.R[c]!) }, 0, ByteArray.empty) from rfl, reck_7]
  exact apost_of (do_three 7 _ mean_7 a b c ha hb hc n k _ _ _ h rfl rfl ent_7 (fun w1 => drew_of (min_any _ _ (hR b) (hR c) w1)))
theorem do_8 (a b c n k : Nat) (ha : a < 8) (hb : b < 8) (hc : c < 8) {w : World} {B fuel many : Nat} {m : Mc} {p : Option Addr} {cap : Nat} (h : Mb w B m (.slice p many cap) fuel) (hR : ∀ i : Nat, m.R[i]! < 18446744073709551616) :
    Calls Tryz.prog 62 #[.pointer (some ⟨B, 0, none⟩), .agg #[.int .i64 8, .int .i64 (a : Int), .int .i64 (b : Int), .int .i64 (c : Int), .int .i64 (n : Int), .int .u64 (k : Int)]] w (APost w B (.slice p many cap) fuel (Im.doM m ⟨8, (a : Int), (b : Int), (c : Int), (n : Int), k⟩ many)) := by
  rw [show Im.doM m ⟨8, (a : Int), (b : Int), (c : Int), (n : Int), k⟩ many = (0, { m with R := m.R.set a (Im.reck 8 m.R[b]! m.R[c]!) }, 0, ByteArray.empty) from rfl, reck_8]
  exact apost_of (do_three 8 _ mean_8 a b c ha hb hc n k _ _ _ h rfl rfl ent_8 (fun w1 => drew_of (max_any _ _ (hR b) (hR c) w1)))
theorem do_9 (a b c n k : Nat) (ha : a < 8) (hb : b < 8) (hc : c < 8) {w : World} {B fuel many : Nat} {m : Mc} {p : Option Addr} {cap : Nat} (h : Mb w B m (.slice p many cap) fuel)  :
    Calls Tryz.prog 62 #[.pointer (some ⟨B, 0, none⟩), .agg #[.int .i64 9, .int .i64 (a : Int), .int .i64 (b : Int), .int .i64 (c : Int), .int .i64 (n : Int), .int .u64 (k : Int)]] w (APost w B (.slice p many cap) fuel (Im.doM m ⟨9, (a : Int), (b : Int), (c : Int), (n : Int), k⟩ many)) := by
  rw [show Im.doM m ⟨9, (a : Int), (b : Int), (c : Int), (n : Int), k⟩ many = (0, { m with R := m.R.set a (Im.reck 9 m.R[b]! m.R[c]!) }, 0, ByteArray.empty) from rfl, reck_9]
  exact apost_of (do_three 9 _ mean_9 a b c ha hb hc n k _ _ _ h rfl rfl ent_9 (fun w1 => iless_any _ _ w1))
theorem do_10 (a b c n k : Nat) (ha : a < 8) (hb : b < 8) (hc : c < 8) {w : World} {B fuel many : Nat} {m : Mc} {p : Option Addr} {cap : Nat} (h : Mb w B m (.slice p many cap) fuel) (hR : ∀ i : Nat, m.R[i]! < 18446744073709551616) :
    Calls Tryz.prog 62 #[.pointer (some ⟨B, 0, none⟩), .agg #[.int .i64 10, .int .i64 (a : Int), .int .i64 (b : Int), .int .i64 (c : Int), .int .i64 (n : Int), .int .u64 (k : Int)]] w (APost w B (.slice p many cap) fuel (Im.doM m ⟨10, (a : Int), (b : Int), (c : Int), (n : Int), k⟩ many)) := by
  rw [show Im.doM m ⟨10, (a : Int), (b : Int), (c : Int), (n : Int), k⟩ many = (0, { m with R := m.R.set a (Im.reck 10 m.R[b]! m.R[c]!) }, 0, ByteArray.empty) from rfl, reck_10]
  exact apost_of (do_three 10 _ mean_10 a b c ha hb hc n k _ _ _ h rfl rfl ent_10 (fun w1 => iorder_any _ _ (hR b) (hR c) w1))
theorem do_11 (a b c n k : Nat) (ha : a < 8) (hb : b < 8) {w : World} {B fuel many : Nat} {m : Mc} {p : Option Addr} {cap : Nat} (h : Mb w B m (.slice p many cap) fuel) (hR : ∀ i : Nat, m.R[i]! < 18446744073709551616) :
    Calls Tryz.prog 62 #[.pointer (some ⟨B, 0, none⟩), .agg #[.int .i64 11, .int .i64 (a : Int), .int .i64 (b : Int), .int .i64 (c : Int), .int .i64 (n : Int), .int .u64 (k : Int)]] w (APost w B (.slice p many cap) fuel (Im.doM m ⟨11, (a : Int), (b : Int), (c : Int), (n : Int), k⟩ many)) := by
  rw [show Im.doM m ⟨11, (a : Int), (b : Int), (c : Int), (n : Int), k⟩ many = (0, { m with R := m.R.set a (Im.reck 11 m.R[b]! m.R[c]!) }, 0, ByteArray.empty) from rfl, reck_11]
  exact apost_of (do_two 11 _ mean_11 a b c ha hb n k _ _ h rfl ent_11 (fun w1 => drew_of (neg_any _ (hR b) w1)))
theorem do_12 (a b c n k : Nat) (ha : a < 8) (hb : b < 8) {w : World} {B fuel many : Nat} {m : Mc} {p : Option Addr} {cap : Nat} (h : Mb w B m (.slice p many cap) fuel) (hR : ∀ i : Nat, m.R[i]! < 18446744073709551616) :
    Calls Tryz.prog 62 #[.pointer (some ⟨B, 0, none⟩), .agg #[.int .i64 12, .int .i64 (a : Int), .int .i64 (b : Int), .int .i64 (c : Int), .int .i64 (n : Int), .int .u64 (k : Int)]] w (APost w B (.slice p many cap) fuel (Im.doM m ⟨12, (a : Int), (b : Int), (c : Int), (n : Int), k⟩ many)) := by
  rw [show Im.doM m ⟨12, (a : Int), (b : Int), (c : Int), (n : Int), k⟩ many = (0, { m with R := m.R.set a (Im.reck 12 m.R[b]! m.R[c]!) }, 0, ByteArray.empty) from rfl, reck_12]
  exact apost_of (do_two 12 _ mean_12 a b c ha hb n k _ _ h rfl ent_12 (fun w1 => drew_of (abs_any _ (hR b) w1)))
theorem do_13 (a b c n k : Nat) (ha : a < 8) (hb : b < 8) {w : World} {B fuel many : Nat} {m : Mc} {p : Option Addr} {cap : Nat} (h : Mb w B m (.slice p many cap) fuel) (hR : ∀ i : Nat, m.R[i]! < 18446744073709551616) :
    Calls Tryz.prog 62 #[.pointer (some ⟨B, 0, none⟩), .agg #[.int .i64 13, .int .i64 (a : Int), .int .i64 (b : Int), .int .i64 (c : Int), .int .i64 (n : Int), .int .u64 (k : Int)]] w (APost w B (.slice p many cap) fuel (Im.doM m ⟨13, (a : Int), (b : Int), (c : Int), (n : Int), k⟩ many)) := by
  rw [show Im.doM m ⟨13, (a : Int), (b : Int), (c : Int), (n : Int), k⟩ many = (0, { m with R := m.R.set a (Im.reck 13 m.R[b]! m.R[c]!) }, 0, ByteArray.empty) from rfl, reck_13]
  exact apost_of (do_two 13 _ mean_13 a b c ha hb n k _ _ h rfl ent_13 (fun w1 => floor_any _ (hR b) w1))
theorem do_14 (a b c n k : Nat)  {w : World} {B fuel many : Nat} {m : Mc} {p : Option Addr} {cap : Nat} (h : Mb w B m (.slice p many cap) fuel)  :
    Calls Tryz.prog 62 #[.pointer (some ⟨B, 0, none⟩), .agg #[.int .i64 14, .int .i64 (a : Int), .int .i64 (b : Int), .int .i64 (c : Int), .int .i64 (n : Int), .int .u64 (k : Int)]] w (APost w B (.slice p many cap) fuel (Im.doM m ⟨14, (a : Int), (b : Int), (c : Int), (n : Int), k⟩ many)) := by
  exact do_does 14 _ mean_14 a b c n k _ h ent_14 (fun w1 h1 g1 => jump_any 14 a b c n k h1)
theorem do_15 (a b c n k : Nat) (ha : a < 8) {w : World} {B fuel many : Nat} {m : Mc} {p : Option Addr} {cap : Nat} (h : Mb w B m (.slice p many cap) fuel) (hR : ∀ i : Nat, m.R[i]! < 18446744073709551616) :
    Calls Tryz.prog 62 #[.pointer (some ⟨B, 0, none⟩), .agg #[.int .i64 15, .int .i64 (a : Int), .int .i64 (b : Int), .int .i64 (c : Int), .int .i64 (n : Int), .int .u64 (k : Int)]] w (APost w B (.slice p many cap) fuel (Im.doM m ⟨15, (a : Int), (b : Int), (c : Int), (n : Int), k⟩ many)) := by
  exact do_does 15 _ mean_15 a b c n k _ h ent_15 (fun w1 h1 g1 => jumpIf_any 15 a b c n k ha _ (hR a) h1 rfl)
theorem do_16 (a b c n k : Nat) (ha : a < 8) {w : World} {B fuel many : Nat} {m : Mc} {p : Option Addr} {cap : Nat} (h : Mb w B m (.slice p many cap) fuel) (hR : ∀ i : Nat, m.R[i]! < 18446744073709551616) :
    Calls Tryz.prog 62 #[.pointer (some ⟨B, 0, none⟩), .agg #[.int .i64 16, .int .i64 (a : Int), .int .i64 (b : Int), .int .i64 (c : Int), .int .i64 (n : Int), .int .u64 (k : Int)]] w (APost w B (.slice p many cap) fuel (Im.doM m ⟨16, (a : Int), (b : Int), (c : Int), (n : Int), k⟩ many)) := by
  rw [show Im.doM m ⟨16, (a : Int), (b : Int), (c : Int), (n : Int), k⟩ many = if Gn.intOk m.R[a]! = true ∧ 0 ≤ Gn.intV m.R[a]! ∧ Gn.intV m.R[a]! ≤ (many : Int) then (0, { m with pl := (Gn.intV m.R[a]!).toNat }, 0, ByteArray.empty) else (4, m, 0, ByteArray.empty) from rfl]
  by_cases hx : Gn.intOk m.R[a]! = true ∧ 0 ≤ Gn.intV m.R[a]! ∧ Gn.intV m.R[a]! ≤ (many : Int)
  · rw [if_pos hx]
    exact do_does 16 _ mean_16 a b c n k _ h ent_16 (fun w1 h1 g1 => jumpTo_ok 16 a b c n k ha _ (hR a) many hx.1 hx.2.1 hx.2.2 h1 rfl p cap rfl)
  · rw [if_neg hx]
    by_cases hy : Gn.intOk m.R[a]! = true
    · exact do_does 16 _ mean_16 a b c n k _ h ent_16 (fun w1 h1 g1 => jumpTo_no2 16 a b c n k ha _ (hR a) many hy (fun q => hx ⟨hy, q⟩) h1 rfl p cap rfl)
    · exact do_does 16 _ mean_16 a b c n k _ h ent_16 (fun w1 h1 g1 => jumpTo_no1 16 a b c n k ha _ (hR a) many (by simpa using hy) h1 rfl p cap rfl)
theorem do_17 (a b c n k : Nat)  {w : World} {B fuel many : Nat} {m : Mc} {p : Option Addr} {cap : Nat} (h : Mb w B m (.slice p many cap) fuel) (hpn : m.pn ≤ 8) :
    Calls Tryz.prog 62 #[.pointer (some ⟨B, 0, none⟩), .agg #[.int .i64 17, .int .i64 (a : Int), .int .i64 (b : Int), .int .i64 (c : Int), .int .i64 (n : Int), .int .u64 (k : Int)]] w (APost w B (.slice p many cap) fuel (Im.doM m ⟨17, (a : Int), (b : Int), (c : Int), (n : Int), k⟩ many)) := by
  rw [show Im.doM m ⟨17, (a : Int), (b : Int), (c : Int), (n : Int), k⟩ many = if m.pn = 8 then (2, m, 0, ByteArray.empty) else (0, { m with P := m.P.set m.pn m.pl, pn := m.pn + 1, pl := n }, 0, ByteArray.empty) from rfl]
  by_cases hx : m.pn = 8
  · rw [if_pos hx]
    exact do_does 17 _ mean_17 a b c n k _ h ent_17 (fun w1 h1 g1 => call_no 17 a b c n k h1 hx)
  · rw [if_neg hx]
    exact do_does 17 _ mean_17 a b c n k _ h ent_17 (fun w1 h1 g1 => call_ok 17 a b c n k h1 (by omega))
theorem do_18 (a b c n k : Nat)  {w : World} {B fuel many : Nat} {m : Mc} {p : Option Addr} {cap : Nat} (h : Mb w B m (.slice p many cap) fuel) (hpn : m.pn ≤ 8) :
    Calls Tryz.prog 62 #[.pointer (some ⟨B, 0, none⟩), .agg #[.int .i64 18, .int .i64 (a : Int), .int .i64 (b : Int), .int .i64 (c : Int), .int .i64 (n : Int), .int .u64 (k : Int)]] w (APost w B (.slice p many cap) fuel (Im.doM m ⟨18, (a : Int), (b : Int), (c : Int), (n : Int), k⟩ many)) := by
  rw [show Im.doM m ⟨18, (a : Int), (b : Int), (c : Int), (n : Int), k⟩ many = if m.pn = 0 then (3, m, 0, ByteArray.empty) else (0, { m with pn := m.pn - 1, pl := m.P[m.pn - 1]! }, 0, ByteArray.empty) from rfl]
  by_cases hx : m.pn = 0
  · rw [if_pos hx]
    exact do_does 18 _ mean_18 a b c n k _ h ent_18 (fun w1 h1 g1 => ret_no 18 a b c n k h1 hx)
  · rw [if_neg hx]
    exact do_does 18 _ mean_18 a b c n k _ h ent_18 (fun w1 h1 g1 => ret_ok 18 a b c n k h1 hpn hx)
theorem do_19 (a b c n k : Nat) (ha : a < 8) {w : World} {B fuel many : Nat} {m : Mc} {p : Option Addr} {cap : Nat} (h : Mb w B m (.slice p many cap) fuel) (hsn : m.sn ≤ 8) :
    Calls Tryz.prog 62 #[.pointer (some ⟨B, 0, none⟩), .agg #[.int .i64 19, .int .i64 (a : Int), .int .i64 (b : Int), .int .i64 (c : Int), .int .i64 (n : Int), .int .u64 (k : Int)]] w (APost w B (.slice p many cap) fuel (Im.doM m ⟨19, (a : Int), (b : Int), (c : Int), (n : Int), k⟩ many)) := by
  rw [show Im.doM m ⟨19, (a : Int), (b : Int), (c : Int), (n : Int), k⟩ many = if m.sn = 8 then (2, m, 0, ByteArray.empty) else (0, { m with S := m.S.set m.sn m.R[a]!, sn := m.sn + 1 }, 0, ByteArray.empty) from rfl]
  by_cases hx : m.sn = 8
  · rw [if_pos hx]
    exact do_does 19 _ mean_19 a b c n k _ h ent_19 (fun w1 h1 g1 => push_no 19 a b c n k ha _ h1 rfl hx)
  · rw [if_neg hx]
    exact do_does 19 _ mean_19 a b c n k _ h ent_19 (fun w1 h1 g1 => push_ok 19 a b c n k ha _ h1 rfl (by omega))
theorem do_20 (a b c n k : Nat) (ha : a < 8) {w : World} {B fuel many : Nat} {m : Mc} {p : Option Addr} {cap : Nat} (h : Mb w B m (.slice p many cap) fuel) (hsn : m.sn ≤ 8) :
    Calls Tryz.prog 62 #[.pointer (some ⟨B, 0, none⟩), .agg #[.int .i64 20, .int .i64 (a : Int), .int .i64 (b : Int), .int .i64 (c : Int), .int .i64 (n : Int), .int .u64 (k : Int)]] w (APost w B (.slice p many cap) fuel (Im.doM m ⟨20, (a : Int), (b : Int), (c : Int), (n : Int), k⟩ many)) := by
  rw [show Im.doM m ⟨20, (a : Int), (b : Int), (c : Int), (n : Int), k⟩ many = if m.sn = 0 then (3, m, 0, ByteArray.empty) else (0, { m with sn := m.sn - 1, R := m.R.set a m.S[m.sn - 1]! }, 0, ByteArray.empty) from rfl]
  by_cases hx : m.sn = 0
  · rw [if_pos hx]
    exact do_does 20 _ mean_20 a b c n k _ h ent_20 (fun w1 h1 g1 => pop_no 20 a b c n k h1 hx)
  · rw [if_neg hx]
    exact do_does 20 _ mean_20 a b c n k _ h ent_20 (fun w1 h1 g1 => pop_ok 20 a b c n k ha _ h1 rfl hsn hx)
theorem do_21 (a b c n k : Nat) (ha : a < 8) {w : World} {B fuel many : Nat} {m : Mc} {p : Option Addr} {cap : Nat} (h : Mb w B m (.slice p many cap) fuel) (hE : Env w B) (hR : ∀ i : Nat, m.R[i]! < 18446744073709551616) (hch : m.ch ≤ 32) :
    Calls Tryz.prog 62 #[.pointer (some ⟨B, 0, none⟩), .agg #[.int .i64 21, .int .i64 (a : Int), .int .i64 (b : Int), .int .i64 (c : Int), .int .i64 (n : Int), .int .u64 (k : Int)]] w (APost w B (.slice p many cap) fuel (Im.doM m ⟨21, (a : Int), (b : Int), (c : Int), (n : Int), k⟩ many)) := by
  rw [show Im.doM m ⟨21, (a : Int), (b : Int), (c : Int), (n : Int), k⟩ many = if m.ch = 32 then (5, m, 0, ByteArray.empty) else (0, { m with ch := m.ch + 1 }, 1, textB m.R[a]!) from rfl]
  by_cases hx : m.ch = 32
  · rw [if_pos hx]
    exact do_does 21 _ mean_21 a b c n k _ h ent_21 (fun w1 h1 g1 => emit_no 21 a b c n k h1 hx)
  · rw [if_neg hx]
    exact do_does 21 _ mean_21 a b c n k _ h ent_21 (fun w1 h1 g1 => emit_ok 21 a b c n k ha _ (hR a) h1 rfl (by omega) (hE.grown g1))
theorem do_22 (a b c n k : Nat) (ha : a < 8) {w : World} {B fuel many : Nat} {m : Mc} {p : Option Addr} {cap : Nat} (h : Mb w B m (.slice p many cap) fuel) (hE : Env w B) (hR : ∀ i : Nat, m.R[i]! < 18446744073709551616) (hpc : m.pc ≤ 16) :
    Calls Tryz.prog 62 #[.pointer (some ⟨B, 0, none⟩), .agg #[.int .i64 22, .int .i64 (a : Int), .int .i64 (b : Int), .int .i64 (c : Int), .int .i64 (n : Int), .int .u64 (k : Int)]] w (APost w B (.slice p many cap) fuel (Im.doM m ⟨22, (a : Int), (b : Int), (c : Int), (n : Int), k⟩ many)) := by
  rw [show Im.doM m ⟨22, (a : Int), (b : Int), (c : Int), (n : Int), k⟩ many = if m.pc = 16 then (6, m, 0, ByteArray.empty) else (0, { m with pc := m.pc + 1 }, 2, textB m.R[a]!) from rfl]
  by_cases hx : m.pc = 16
  · rw [if_pos hx]
    exact do_does 22 _ mean_22 a b c n k _ h ent_22 (fun w1 h1 g1 => write_no 22 a b c n k h1 hx)
  · rw [if_neg hx]
    exact do_does 22 _ mean_22 a b c n k _ h ent_22 (fun w1 h1 g1 => write_ok 22 a b c n k ha _ (hR a) h1 rfl (by omega) (hE.grown g1))
theorem do_23 (a b c n k : Nat)  {w : World} {B fuel many : Nat} {m : Mc} {p : Option Addr} {cap : Nat} (h : Mb w B m (.slice p many cap) fuel)  :
    Calls Tryz.prog 62 #[.pointer (some ⟨B, 0, none⟩), .agg #[.int .i64 23, .int .i64 (a : Int), .int .i64 (b : Int), .int .i64 (c : Int), .int .i64 (n : Int), .int .u64 (k : Int)]] w (APost w B (.slice p many cap) fuel (Im.doM m ⟨23, (a : Int), (b : Int), (c : Int), (n : Int), k⟩ many)) := by
  exact do_does 23 _ mean_23 a b c n k _ h ent_23 (fun w1 h1 g1 => fail_any 23 a b c n k h1)
theorem do_24 (a b c n k : Nat)  {w : World} {B fuel many : Nat} {m : Mc} {p : Option Addr} {cap : Nat} (h : Mb w B m (.slice p many cap) fuel)  :
    Calls Tryz.prog 62 #[.pointer (some ⟨B, 0, none⟩), .agg #[.int .i64 24, .int .i64 (a : Int), .int .i64 (b : Int), .int .i64 (c : Int), .int .i64 (n : Int), .int .u64 (k : Int)]] w (APost w B (.slice p many cap) fuel (Im.doM m ⟨24, (a : Int), (b : Int), (c : Int), (n : Int), k⟩ many)) := by
  exact do_does 24 _ mean_24 a b c n k _ h ent_24 (fun w1 h1 g1 => halt_any 24 a b c n k h1)
theorem do_any {w : World} {B fuel many fu : Nat} {m : Mc} {p : Option Addr} {cap : Nat} {x : In} (h : Mb w B m (.slice p many cap) fuel) (hE : Env w B) (hf : m.Fit many fu) (g : x.Good many) :
    Calls Tryz.prog 62 #[.pointer (some ⟨B, 0, none⟩), .agg #[.int .i64 x.op, .int .i64 x.a, .int .i64 x.b, .int .i64 x.c, .int .i64 x.n, .int .u64 (x.k : Int)]] w (APost w B (.slice p many cap) fuel (Im.doM m x many)) := by
  obtain ⟨op, a, b, c, n, k⟩ := x
  obtain ⟨g1, g2, ha, ha', hb, hb', hc, hc', hn, _, _⟩ := g
  dsimp only at *
  obtain ⟨a, rfl⟩ := Int.eq_ofNat_of_zero_le ha
  obtain ⟨b, rfl⟩ := Int.eq_ofNat_of_zero_le hb
  obtain ⟨c, rfl⟩ := Int.eq_ofNat_of_zero_le hc
  obtain ⟨n, rfl⟩ := Int.eq_ofNat_of_zero_le hn
  have ha : a < 8 := by omega
  have hb : b < 8 := by omega
  have hc : c < 8 := by omega
  have hR : ∀ i : Nat, m.R[i]! < 18446744073709551616 := fun i => (get_wd hf.wR i).1
  have hsn := hf.sn
  have hpn := hf.pn
  have hch := hf.ch
  have hpc := hf.pc
  have hop : op = 1 ∨ op = 2 ∨ op = 3 ∨ op = 4 ∨ op = 5 ∨ op = 6 ∨ op = 7 ∨ op = 8 ∨ op = 9 ∨ op = 10 ∨ op = 11 ∨ op = 12 ∨ op = 13 ∨ op = 14 ∨ op = 15 ∨ op = 16 ∨ op = 17 ∨ op = 18 ∨ op = 19 ∨ op = 20 ∨ op = 21 ∨ op = 22 ∨ op = 23 ∨ op = 24 := by omega
  rcases hop with rfl | rfl | rfl | rfl | rfl | rfl | rfl | rfl | rfl | rfl | rfl | rfl | rfl | rfl | rfl | rfl | rfl | rfl | rfl | rfl | rfl | rfl | rfl | rfl
  · exact do_1 a b c n k ha h 
  · exact do_2 a b c n k ha hb h 
  · exact do_3 a b c n k ha hb hc h 
  · exact do_4 a b c n k ha hb hc h hR
  · exact do_5 a b c n k ha hb hc h 
  · exact do_6 a b c n k ha hb hc h 
  · exact do_7 a b c n k ha hb hc h hR
  · exact do_8 a b c n k ha hb hc h hR
  · exact do_9 a b c n k ha hb hc h 
  · exact do_10 a b c n k ha hb hc h hR
  · exact do_11 a b c n k ha hb h hR
  · exact do_12 a b c n k ha hb h hR
  · exact do_13 a b c n k ha hb h hR
  · exact do_14 a b c n k  h 
  · exact do_15 a b c n k ha h hR
  · exact do_16 a b c n k ha h hR
  · exact do_17 a b c n k  h hpn
  · exact do_18 a b c n k  h hpn
  · exact do_19 a b c n k ha h hsn
  · exact do_20 a b c n k ha h hsn
  · exact do_21 a b c n k ha h hE hR hch
  · exact do_22 a b c n k ha h hE hR hpc
  · exact do_23 a b c n k  h 
  · exact do_24 a b c n k  h 
end Go.Proofs.YtpgehocadohkiaaGreatDoor
end

section
namespace Go.Proofs.YtpgehocadohkiaaGreatDoor
open Go.RowKit Go.Shelf

theorem grown_none (w : World) (q : Nat) (r : Option Nat) : w.grownBy (w.drewN q) r := ⟨rfl, rfl, rfl, Nat.le_refl _, fun _ _ _ => rfl⟩
theorem grown_drewN {w w' : World} {r : Option Nat} (h : w.grownBy w' r) (q : Nat) : w.grownBy (w'.drewN q) r := ⟨h.os, h.tape, h.output, h.size, h.block⟩
theorem Mb.drewN {w : World} {B fuel : Nat} {m : Mc} {v : Value} (h : Mb w B m v fuel) (q : Nat) : Mb (w.drewN q) B m v fuel := ⟨h.blk, h.l8⟩
theorem Mb.drawn {w w' : World} {B fuel : Nat} {m : Mc} {v : Value} (h : Mb w B m v fuel) (e : w'.heap = w.heap) : Mb w' B m v fuel := ⟨by rw [e]; exact h.blk, h.l8⟩
set_option maxHeartbeats 1000000 in
theorem settle_any {w : World} {B fuel : Nat} {m : Mc} {p : Option Addr} {many cap : Nat} (h : Mb w B m (.slice p many cap) fuel) :
    Calls Tryz.prog 63 #[.pointer (some ⟨B, 0, none⟩)] w fun e w' => e = .returned (.tuple #[]) ∧ Mb w' B (Im.settle m many fuel) (.slice p many cap) fuel ∧ w.grownBy w' (some B) := by
  have c0 : w.cell? ⟨B, 0, none⟩ = some (.slice p many cap) := h.cell rfl
  have c1 : w.cell? ⟨B, 1, none⟩ = some (.int .i64 (fuel : Int)) := h.cell rfl
  have c2 := h.cell (h.l8.g_pl (.slice p many cap) fuel)
  have c29 := h.cell (h.l8.g_dn (.slice p many cap) fuel)
  have c32 := h.cell (h.l8.g_ov (.slice p many cap) fuel)
  have c33 := h.cell (h.l8.g_en (.slice p many cap) fuel)
  have z := h.z
  unfold Im.settle
  by_cases h1 : m.ov = true
  · rw [if_pos h1]
    rw [h1] at c32
    have HB := hide h
    go_enter Tryz.func63, Tryz.ntmps63
    go_wp2_with fail
    exact ⟨rfl, _, results_none rfl _ _ _, rfl, HB.out, grown_none w 0 _⟩
  rw [if_neg h1]
  rw [Bool.not_eq_true] at h1
  rw [h1] at c32
  by_cases h2 : m.pl = many
  · rw [if_pos h2]
    rw [h2] at c2
    have HS := hide (h.set (h.l8.s_ov _ fuel true) (h.l8.of rfl rfl rfl))
    go_enter Tryz.func63, Tryz.ntmps63
    go_wp2_with fail
    go_quiet (fail)
    go_wp2_with fail
    exact ⟨rfl, _, results_none rfl _ _ _, rfl, HS.out.drawn rfl, grown_drewN (i_grown_set w B 32 (.bool true)) _⟩
  rw [if_neg h2]
  have b2 : ((m.pl : Int) == (many : Int)) = false := by rw [beq_eq_false_iff_ne]; omega
  by_cases h3 : m.dn = fuel
  · rw [if_pos h3]
    rw [h3] at c29
    have H1 := h.set (h.l8.s_ov _ fuel true) (h.l8.of rfl rfl rfl)
    have k33 := H1.cell (H1.l8.g_en _ fuel)
    have kz := H1.z
    have HS := hide (H1.set (H1.l8.s_en _ fuel 1) (H1.l8.of rfl rfl rfl))
    clear H1
    generalize m.pl = pl at *
    go_enter Tryz.func63, Tryz.ntmps63
    go_wp2_with fail
    go_quiet (fail)
    go_wp2_with fail
    go_quiet (fail)
    go_wp2_with fail
    exact ⟨rfl, _, results_none rfl _ _ _, rfl, HS.out.drawn rfl, grown_drewN (i_grown_trans (i_grown_set w B 32 (.bool true)) (i_grown_set _ B 33 _)) _⟩
  · rw [if_neg h3]
    have b3 : ((m.dn : Int) == (fuel : Int)) = false := by rw [beq_eq_false_iff_ne]; omega
    have HB := hide h
    generalize m.pl = pl at *
    generalize m.dn = dn at *
    go_enter Tryz.func63, Tryz.ntmps63
    go_wp2_with fail
    go_quiet (fail)
    go_wp2_with fail
    go_quiet (fail)
    go_wp2_with fail
    exact ⟨rfl, _, results_none rfl _ _ _, rfl, HB.out.drawn rfl, grown_drewN (grown_none w _ _) _⟩
end Go.Proofs.YtpgehocadohkiaaGreatDoor
end

section
namespace Go.Proofs.YtpgehocadohkiaaGreatDoor
open Go.RowKit Go.Shelf

theorem trap_yes (W : World) (n : Int) : (Instr.typeAssert (.iface 102 (.int .i64 n)) 20 102 true).run Tryz.prog W = .ok (.tuple #[.int .i64 n, .bool true]) W := by kernel_rfl
theorem trap_nil (W : World) : (Instr.typeAssert .nilIface 20 102 true).run Tryz.prog W = .ok (.tuple #[.int .i64 0, .bool false]) W := by kernel_rfl
theorem idleT (w : World) (Z X : Nat) :
    CallsD Tryz.prog 61 #[.pointer (some ⟨Z, 0, none⟩), .pointer (some ⟨X, 0, none⟩)] .returning w fun e u' w' => e = .returned (.tuple #[]) ∧ u' = .returning ∧ w' = w := by
  refine callsD_of_wpS Tryz.func61 rfl fun c₀ cs hu => ?_
  apply wpS_seq
  apply wpS_region
  simp [wpOpsS, go_sem, recoverD, hu, Tryz.ntmps61, Exit.thenS, trap_nil]
  apply wpS_seq
  apply wpS_region
  simp [wpOpsS, go_sem, Exit.thenS]
  refine wpS_cond (t := false) (by simp [Act.eval, Array.replicate]) ?_
  simp only [Bool.false_eq_true, if_false]
  refine wpS_of_wp (wp_skip ?_)
  cases c₀
  simp_all [bodyPostS, results, Tryz.results61]
set_option maxHeartbeats 1000000 in
theorem catchT {w : World} {B X Z fuel at_ t : Nat} {m : Mc} {v : Value} (h : Mb w B m v fuel)
    (hZ : w.cell? ⟨Z, 0, none⟩ = some (.int .i64 (at_ : Int))) (hX : w.cell? ⟨X, 0, none⟩ = some (.pointer (some ⟨B, 0, none⟩))) (older : List PanicEntry) :
    CallsD Tryz.prog 61 #[.pointer (some ⟨Z, 0, none⟩), .pointer (some ⟨X, 0, none⟩)] (.panicking ({ v := .iface 102 (.int .i64 (t : Int)), recovered := false } :: older)) w fun e u' w' =>
      e = .returned (.tuple #[]) ∧ u' = .panicking ({ v := .iface 102 (.int .i64 (t : Int)), recovered := true } :: older) ∧ Mb w' B { m with pl := at_, ov := true, en := t } v fuel ∧ w.grownBy w' (some B) := by
  have c2 := h.cell (h.l8.g_pl v fuel)
  have z := h.z
  have h1 := h.set (h.l8.s_pl v fuel at_) (h.l8.of rfl rfl rfl)
  have k32 := h1.cell (h1.l8.g_ov v fuel)
  have z1 := h1.z
  have h2 := h1.set (h1.l8.s_ov v fuel true) (h1.l8.of rfl rfl rfl)
  have k33 := h2.cell (h2.l8.g_en v fuel)
  have z2 := h2.z
  have HS := hide (h2.set (h2.l8.s_en v fuel t) (h2.l8.of rfl rfl rfl))
  have HG := hide (i_grown_trans (i_grown_trans (i_grown_set w B 2 (.int .i64 (at_ : Int))) (i_grown_set _ B 32 (.bool true))) (i_grown_set _ B 33 (.int .i64 (t : Int))))
  clear h1 h2 h
  refine callsD_of_wpS Tryz.func61 rfl fun c₀ cs hu => ?_
  apply wpS_seq
  apply wpS_region
  simp [wpOpsS, go_sem, recoverD, hu, Tryz.ntmps61, Exit.thenS, trap_yes]
  apply wpS_seq
  apply wpS_region
  simp [wpOpsS, go_sem, Exit.thenS]
  refine wpS_cond (t := true) (by simp [Act.eval, Array.replicate]) ?_
  simp only [if_true]
  refine wpS_of_wp ?_
  simp only [Array.replicate, List.replicate]
  go_wp2
  exact ⟨rfl, _, rfl, _, results_none rfl _ _ _, rfl, rfl, HS.out, HG.out⟩
end Go.Proofs.YtpgehocadohkiaaGreatDoor
end
