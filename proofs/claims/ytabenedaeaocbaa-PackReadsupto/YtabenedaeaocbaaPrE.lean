import Derived.Test.YtabenedaeaocbaaPrD
import Derived.Deep.RegionHeld3
namespace Go.Proofs.Ytabenedaeaocbaa
open Go.RowKit

/-- what does leaves -/
def DPost (B G o : Nat) (b : ByteArray) (w w' : World) : Prop :=
  ∃ (p' : Nat) (f' : Int), p' ≤ b.size ∧ Rd w' B b p' f' ∧ RR w' G o b p' f' (fa p' f') ∧ Jm B G o w w'
theorem jr_start {w : World} {B G o p : Nat} {b : ByteArray} {f : Int} (h : Rd w B b p f) (hr : RR w G o b p f (fa p f)) (hn : B ≠ G) (k m : Int) :
    Jr w w.heap.size B G o b k m p f p f (w.alloc (.cells #[.int .i64 k, .int .i64 m] 32)) :=
  ⟨h.alloc _, hr.keep (Below.heap_alloc w _ G hr.lt), heap_alloc_new w _, hn, fun e => absurd h.lt (by omega), fun e => absurd hr.lt (by omega), (Jm.refl B G o w).alloc _⟩

set_option maxHeartbeats 2000000 in
set_option maxRecDepth 8000 in
theorem does_list {w : World} {B G o p : Nat} {b : ByteArray} {f : Int} (h : Rd w B b p f) (hr : RR w G o b p f (fa p f)) (hn : B ≠ G) (hp : p ≤ b.size) (hb : b.size ≤ 140737488351232) (k m : Int) (hm : m ≤ 9223372036854775807) (hk1 : (k == 1) = false) (hk2 : (k == 2) = true) :
    Calls Try.prog 7 #[.pointer (some ⟨B, 0, none⟩), .pointer (some ⟨G, o, none⟩), .agg #[.int .i64 k, .int .i64 m]] w fun e w' => e = .returned (.bool true) ∧ DPost B G o b w w' := by
  obtain ⟨v, p', f', hx⟩ := list_both (f := f) hp hb m hm
  have HX := hide hx
  have hz := jr_start h hr hn k m
  have H0 := hide hz
  clear h hr hn hx hp hb hz
  go_enter Try.func7, Try.ntmps7
  go_wp2_with fail
  generalize w.alloc (.cells #[.int .i64 k, .int .i64 m] 32) = W0 at *
  have o0 := H0.out.c0
  have o1 := H0.out.c1
  go_region_held3 (fun w' => w'.cell? ⟨w.heap.size, 1, none⟩ = some (.int .i64 m)) (go_keep) (first
    | (go_at_call 13; refine (HX.out.pk _ B HB2.out.rd).mono ?_; rintro e w2 ⟨rfl, hR, hg⟩; have HF := hide (HB2.out.pk hR hg); have z1 := HF.out.c1; clear hR hg)
    | (go_at_call 14; refine (HX.out.rf _ G o HA2.out.rr).mono ?_; rintro e w2 ⟨rfl, hR, hg⟩; have HF := hide (HA2.out.rf hR hg); have z1 := HF.out.c1; clear hR hg)
    | (go_at_call 13; refine (HX.out.pk _ B H0.out.drew.rd).mono ?_; rintro e w1 ⟨rfl, hR, hg⟩; have HA2 := hide (H0.out.drew.pk hR hg); have y1 := HA2.out.c1; clear hR hg)
    | (go_at_call 14; refine (HX.out.rf _ G o H0.out.drew.rr).mono ?_; rintro e w1 ⟨rfl, hR, hg⟩; have HB2 := hide (H0.out.drew.rf hR hg); have y1 := HB2.out.c1; clear hR hg))
  go_wp2
  go_ret
  exact ⟨rfl, p', f', HX.out.le, HF.out.rd, HF.out.rr, HF.out.mv⟩

set_option maxHeartbeats 2000000 in
set_option maxRecDepth 8000 in
theorem does_text {w : World} {B G o p : Nat} {b : ByteArray} {f : Int} (h : Rd w B b p f) (hr : RR w G o b p f (fa p f)) (hn : B ≠ G) (hp : p ≤ b.size) (hb : b.size ≤ 140737488351232) (k m : Int) (hm : m ≤ 9223372036854775807) (hk1 : (k == 1) = false) (hk2 : (k == 2) = false) (hk3 : (k == 3) = true) :
    Calls Try.prog 7 #[.pointer (some ⟨B, 0, none⟩), .pointer (some ⟨G, o, none⟩), .agg #[.int .i64 k, .int .i64 m]] w fun e w' => e = .returned (.bool true) ∧ DPost B G o b w w' := by
  obtain ⟨v, p', f', hx⟩ := text_both (f := f) hp hb m hm
  have HX := hide hx
  have hz := jr_start h hr hn k m
  have H0 := hide hz
  clear h hr hn hx hp hb hz
  go_enter Try.func7, Try.ntmps7
  go_wp2_with fail
  generalize w.alloc (.cells #[.int .i64 k, .int .i64 m] 32) = W0 at *
  have o0 := H0.out.c0
  have o1 := H0.out.c1
  go_region_held3 (fun w' => w'.cell? ⟨w.heap.size, 1, none⟩ = some (.int .i64 m)) (go_keep) (first
    | (go_at_call 15; refine (HX.out.pk _ B HB2.out.rd).mono ?_; rintro e w2 ⟨rfl, hR, hg⟩; have HF := hide (HB2.out.pk hR hg); have z1 := HF.out.c1; clear hR hg)
    | (go_at_call 16; refine (HX.out.rf _ G o HA2.out.rr).mono ?_; rintro e w2 ⟨rfl, hR, hg⟩; have HF := hide (HA2.out.rf hR hg); have z1 := HF.out.c1; clear hR hg)
    | (go_at_call 15; refine (HX.out.pk _ B H0.out.drew.rd).mono ?_; rintro e w1 ⟨rfl, hR, hg⟩; have HA2 := hide (H0.out.drew.pk hR hg); have y1 := HA2.out.c1; clear hR hg)
    | (go_at_call 16; refine (HX.out.rf _ G o H0.out.drew.rr).mono ?_; rintro e w1 ⟨rfl, hR, hg⟩; have HB2 := hide (H0.out.drew.rf hR hg); have y1 := HB2.out.c1; clear hR hg))
  go_wp2
  go_ret
  exact ⟨rfl, p', f', HX.out.le, HF.out.rd, HF.out.rr, HF.out.mv⟩

theorem numw_both {b : ByteArray} {p : Nat} {f : Int} (hp : p ≤ b.size) (hb : b.size ≤ 140737488351232) (m : Int) : ∃ (v : Int) (p' : Nat) (f' : Int), Bx 11 12 (.int .u64 (IntKind.u64.wrap m)) (.int .u64 v) b p f p' f' := by
  have h0 : 0 ≤ IntKind.u64.wrap m := Int.emod_nonneg _ (by decide)
  have h1 : IntKind.u64.wrap m = ((IntKind.u64.wrap m).toNat : Int) := by omega
  rw [h1]
  exact num_both hp hb _

set_option maxHeartbeats 2000000 in
set_option maxRecDepth 8000 in
theorem does_num {w : World} {B G o p : Nat} {b : ByteArray} {f : Int} (h : Rd w B b p f) (hr : RR w G o b p f (fa p f)) (hn : B ≠ G) (hp : p ≤ b.size) (hb : b.size ≤ 140737488351232) (k m : Int) (hk1 : (k == 1) = true) :
    Calls Try.prog 7 #[.pointer (some ⟨B, 0, none⟩), .pointer (some ⟨G, o, none⟩), .agg #[.int .i64 k, .int .i64 m]] w fun e w' => e = .returned (.bool true) ∧ DPost B G o b w w' := by
  obtain ⟨v, p', f', hx⟩ := numw_both (f := f) hp hb m
  have HX := hide hx
  have hz := jr_start h hr hn k m
  have H0 := hide hz
  clear h hr hn hx hp hb hz
  go_enter Try.func7, Try.ntmps7
  go_wp2_with fail
  generalize w.alloc (.cells #[.int .i64 k, .int .i64 m] 32) = W0 at *
  have o0 := H0.out.c0
  have o1 := H0.out.c1
  go_region_held3 (fun w' => w'.cell? ⟨w.heap.size, 1, none⟩ = some (.int .i64 m)) (go_keep) (first
    | (go_at_call 11; refine (HX.out.pk _ B HB2.out.rd).mono ?_; rintro e w2 ⟨rfl, hR, hg⟩; have HF := hide (HB2.out.pk hR hg); have z1 := HF.out.c1; clear hR hg)
    | (go_at_call 12; refine (HX.out.rf _ G o HA2.out.rr).mono ?_; rintro e w2 ⟨rfl, hR, hg⟩; have HF := hide (HA2.out.rf hR hg); have z1 := HF.out.c1; clear hR hg)
    | (go_at_call 11; refine (HX.out.pk _ B H0.out.drew.rd).mono ?_; rintro e w1 ⟨rfl, hR, hg⟩; have HA2 := hide (H0.out.drew.pk hR hg); have y1 := HA2.out.c1; clear hR hg)
    | (go_at_call 12; refine (HX.out.rf _ G o H0.out.drew.rr).mono ?_; rintro e w1 ⟨rfl, hR, hg⟩; have HB2 := hide (H0.out.drew.rf hR hg); have y1 := HB2.out.c1; clear hR hg))
  go_wp2
  go_ret
  exact ⟨rfl, p', f', HX.out.le, HF.out.rd, HF.out.rr, HF.out.mv⟩

set_option maxHeartbeats 2000000 in
set_option maxRecDepth 8000 in
theorem does_bits {w : World} {B G o p : Nat} {b : ByteArray} {f : Int} (h : Rd w B b p f) (hr : RR w G o b p f (fa p f)) (hn : B ≠ G) (hp : p ≤ b.size) (hb : b.size ≤ 140737488351232) (k m : Int) (hk1 : (k == 1) = false) (hk2 : (k == 2) = false) (hk3 : (k == 3) = false) (hk4 : (k == 4) = true) :
    Calls Try.prog 7 #[.pointer (some ⟨B, 0, none⟩), .pointer (some ⟨G, o, none⟩), .agg #[.int .i64 k, .int .i64 m]] w fun e w' => e = .returned (.bool true) ∧ DPost B G o b w w' := by
  obtain ⟨v, p', f', hx⟩ := bits_both (f := f) hp hb
  have HX := hide hx
  have hz := jr_start h hr hn k m
  have H0 := hide hz
  clear h hr hn hx hp hb hz
  go_enter Try.func7, Try.ntmps7
  go_wp2_with fail
  generalize w.alloc (.cells #[.int .i64 k, .int .i64 m] 32) = W0 at *
  have o0 := H0.out.c0
  have o1 := H0.out.c1
  refine (HX.out.pk _ B H0.out.rd).mono ?_
  rintro e w1 ⟨rfl, hR, hg⟩
  have HA2 := hide (H0.out.pk hR hg)
  have y1 := HA2.out.c1
  clear hR hg
  go_wp2_with fail
  refine (HX.out.rf _ G o HA2.out.rr).mono ?_
  rintro e w2 ⟨rfl, hR, hg⟩
  have HF := hide (HA2.out.rf hR hg)
  clear hR hg
  go_wp2
  go_ret
  exact ⟨rfl, p', f', HX.out.le, HF.out.rd, HF.out.rr, HF.out.mv⟩

set_option maxHeartbeats 2000000 in
set_option maxRecDepth 8000 in
theorem does_else {w : World} {B G o p : Nat} {b : ByteArray} {f : Int} (h : Rd w B b p f) (hr : RR w G o b p f (fa p f)) (hn : B ≠ G) (hp : p ≤ b.size) (k m : Int) (hk1 : (k == 1) = false) (hk2 : (k == 2) = false) (hk3 : (k == 3) = false) (hk4 : (k == 4) = false) :
    Calls Try.prog 7 #[.pointer (some ⟨B, 0, none⟩), .pointer (some ⟨G, o, none⟩), .agg #[.int .i64 k, .int .i64 m]] w fun e w' => e = .returned (.bool true) ∧ DPost B G o b w w' := by
  have HP := hide hp
  have hz := jr_start h hr hn k m
  have H0 := hide hz
  clear h hr hn hp hz
  go_enter Try.func7, Try.ntmps7
  go_wp2_with fail
  go_ret
  exact ⟨rfl, p, f, HP.out, H0.out.rd, H0.out.rr, H0.out.mv⟩

theorem does_any {w : World} {B G o p : Nat} {b : ByteArray} {f : Int} (h : Rd w B b p f) (hr : RR w G o b p f (fa p f)) (hn : B ≠ G) (hp : p ≤ b.size) (hb : b.size ≤ 140737488351232) (k m : Int) (hm : m ≤ 9223372036854775807) :
    Calls Try.prog 7 #[.pointer (some ⟨B, 0, none⟩), .pointer (some ⟨G, o, none⟩), .agg #[.int .i64 k, .int .i64 m]] w fun e w' => e = .returned (.bool true) ∧ DPost B G o b w w' := by
  by_cases h1 : (k == 1) = true
  · exact does_num h hr hn hp hb k m h1
  have h1 : (k == 1) = false := by simpa using h1
  by_cases h2 : (k == 2) = true
  · exact does_list h hr hn hp hb k m hm h1 h2
  have h2 : (k == 2) = false := by simpa using h2
  by_cases h3 : (k == 3) = true
  · exact does_text h hr hn hp hb k m hm h1 h2 h3
  have h3 : (k == 3) = false := by simpa using h3
  by_cases h4 : (k == 4) = true
  · exact does_bits h hr hn hp hb k m h1 h2 h3 h4
  exact does_else h hr hn hp k m h1 h2 h3 (by simpa using h4)
end Go.Proofs.Ytabenedaeaocbaa
