import Derived.Test.YtajbkgahgnkodaaPkBa
import Derived.Test.YtajbkgahgnkodaaPkX
import Derived.Deep.RegionHeld3
namespace Go.Proofs.Ytajbkgahgnkodaa
open Go.RowKit

/-- a slice of things that came in: the cells of each -/
structure Ths (w : World) (ad : Option Addr) (len : Nat) (ab ao : Nat) (K : Nat → Int) (N : Nat → Nat) (S : Nat → ByteArray) : Prop where
  some : 0 < len → ad = some ⟨ab, ao, none⟩
  old : 0 < len → ab < w.heap.size
  c0 : ∀ i, i < len → w.cell? ⟨ab, ao + i * 3, none⟩ = Option.some (.int .i64 (K i))
  c1 : ∀ i, i < len → w.cell? ⟨ab, ao + i * 3 + 1, none⟩ = Option.some (.int .u64 (N i : Int))
  c2 : ∀ i, i < len → w.cell? ⟨ab, ao + i * 3 + 2, none⟩ = Option.some (.string (S i))
  bN : ∀ i, i < len → N i < 18446744073709551616
  bS : ∀ i, i < len → (S i).size ≤ 140737488351232
  few : len ≤ 9223372036854775807
theorem Ths.below {w w' : World} {ad : Option Addr} {len ab ao : Nat} {K : Nat → Int} {N : Nat → Nat} {S : Nat → ByteArray} (h : Ths w ad len ab ao K N S) (hb : Below w.heap.size w w') : Ths w' ad len ab ao K N S :=
  ⟨h.some, fun h0 => Nat.lt_of_lt_of_le (h.old h0) hb.size, fun i hi => (hb.cell (h.old (by omega))).trans (h.c0 i hi), fun i hi => (hb.cell (h.old (by omega))).trans (h.c1 i hi), fun i hi => (hb.cell (h.old (by omega))).trans (h.c2 i hi), h.bN, h.bS, h.few⟩

/-- how the reader stands behind the first things -/
structure BRel (w : World) (B : Nat) (b : ByteArray) (c P : Nat) (ok : Bool) (wr : World) : Prop where
  ex : ∃ (p : Nat) (f : Int), Rd wr B b (p : Int) f ∧ p ≤ b.size ∧ ((P ≤ c ∧ f = 0 ∧ p = P ∧ ok = true) ∨ (c < P ∧ f = 20))
  bel : Below w.heap.size w wr

theorem stepA_num {w : World} {B p N r : Nat} {b : ByteArray} {more : List UInt8} (h : Rd w B b p 0) (hp : p ≤ b.size) (hb : b.size ≤ 140737488351232) (hm : rest b p = (Pk.enc N ++ more).take r) (hN : N < 18446744073709551616) (hr : (Pk.enc N).length ≤ r) :
    Calls Try.prog 21 #[.pointer (some ⟨B, 0, none⟩), .int .u64 18446744073709551615] w fun e w' => e = .returned (.int .u64 (N : Int)) ∧ Rd w' B b ((p + (Pk.enc N).length : Nat) : Int) 0 ∧ w.grownBy w' (some B) := by
  obtain ⟨k0, v0, q0⟩ := (num_of (most := 18446744073709551615) (above := 21) hm hN (by omega)).1 hr
  refine (rnum_max h hp hb).mono fun e w' hF => ?_
  obtain ⟨he, hR⟩ := hF.ok k0
  rw [v0] at he
  rw [q0] at hR
  exact ⟨he, hR, hF.grown⟩
theorem stepB_num {w : World} {B p N r : Nat} {b : ByteArray} {f : Int} {more : List UInt8} (h : Rd w B b p f) (hp : p ≤ b.size) (hb : b.size ≤ 140737488351232) (hN : N < 18446744073709551616) (hst : (f = 0 ∧ rest b p = (Pk.enc N ++ more).take r ∧ r < (Pk.enc N).length) ∨ f = 20) :
    Calls Try.prog 21 #[.pointer (some ⟨B, 0, none⟩), .int .u64 18446744073709551615] w fun e w' => e = .returned (.int .u64 0) ∧ Rd w' B b (p : Int) 20 ∧ w.grownBy w' (some B) := by
  rcases hst with ⟨rfl, hm, hr⟩ | rfl
  · have k0 := (num_of (most := 18446744073709551615) (above := 21) hm hN (by omega)).2 hr
    refine (rnum_max h hp hb).mono fun e w' hF => ?_
    obtain ⟨he, hR⟩ := hF.no (by rw [k0]; decide)
    rw [k0] at hR
    exact ⟨he, hR, hF.grown⟩
  · have := rnum_dead (most := 18446744073709551615) h (by decide)
    rw [show ((18446744073709551615 : Nat) : Int) = 18446744073709551615 from rfl] at this
    exact this.mono fun e w' hd => ⟨hd.1, h.below hd.2 h.lt, grown_below hd.2 _⟩
theorem stepA_bits {w : World} {B p N r : Nat} {b : ByteArray} {more : List UInt8} (h : Rd w B b p 0) (hp : p ≤ b.size) (hb : b.size ≤ 140737488351232) (hm : rest b p = (Pk.big8 N ++ more).take r) (hN : N < 18446744073709551616) (hr : 8 ≤ r) :
    Calls Try.prog 23 #[.pointer (some ⟨B, 0, none⟩)] w fun e w' => e = .returned (.int .u64 (N : Int)) ∧ Rd w' B b ((p + 8 : Nat) : Int) 0 ∧ w.grownBy w' (some B) := by
  obtain ⟨k0, v0⟩ := (bits_of hp hm hN).1 hr
  refine (rbits_any h hp hb).mono fun e w' hF => ?_
  obtain ⟨he, hR⟩ := hF.ok k0
  rw [v0] at he
  exact ⟨he, hR, hF.grown⟩
theorem stepB_bits {w : World} {B p N r : Nat} {b : ByteArray} {f : Int} {more : List UInt8} (h : Rd w B b p f) (hp : p ≤ b.size) (hb : b.size ≤ 140737488351232) (hN : N < 18446744073709551616) (hst : (f = 0 ∧ rest b p = (Pk.big8 N ++ more).take r ∧ r < 8) ∨ f = 20) :
    Calls Try.prog 23 #[.pointer (some ⟨B, 0, none⟩)] w fun e w' => e = .returned (.int .u64 0) ∧ Rd w' B b (p : Int) 20 ∧ w.grownBy w' (some B) := by
  rcases hst with ⟨rfl, hm, hr⟩ | rfl
  · have k0 := (bits_of hp hm hN).2 hr
    refine (rbits_any h hp hb).mono fun e w' hF => ?_
    obtain ⟨he, hR⟩ := hF.no (by rw [k0]; decide)
    rw [k0] at hR
    exact ⟨he, hR, hF.grown⟩
  · exact (rbits_dead h (by decide)).mono fun e w' hd => ⟨hd.1, h.below hd.2 h.lt, grown_below hd.2 _⟩
theorem stepA_text {w : World} {B p r : Nat} {b S : ByteArray} {more : List UInt8} (h : Rd w B b p 0) (hp : p ≤ b.size) (hb : b.size ≤ 140737488351232) (hm : rest b p = (Pk.enc S.size ++ S.data.toList ++ more).take r) (hS : S.size ≤ 140737488351232) (hr : (Pk.enc S.size ++ S.data.toList).length ≤ r) :
    Calls Try.prog 24 #[.pointer (some ⟨B, 0, none⟩), .int .i64 (S.size : Int)] w fun e w' => e = .returned (.string S) ∧ Rd w' B b ((p + (Pk.enc S.size ++ S.data.toList).length : Nat) : Int) 0 ∧ w.grownBy w' (some B) := by
  obtain ⟨k0, v0, q0⟩ := (text_of hp hm hS).1 hr
  refine (rtext_any (most := (S.size : Int)) (by omega) h hp hb).mono fun e w' hF => ?_
  rw [show ((S.size : Int)).toNat = S.size from rfl] at hF
  obtain ⟨he, hR⟩ := hF.ok k0
  rw [v0] at he
  rw [q0] at hR
  exact ⟨he, hR, hF.grown⟩
theorem stepB_text {w : World} {B p r : Nat} {b S : ByteArray} {f : Int} {more : List UInt8} (h : Rd w B b p f) (hp : p ≤ b.size) (hb : b.size ≤ 140737488351232) (hS : S.size ≤ 140737488351232) (hst : (f = 0 ∧ rest b p = (Pk.enc S.size ++ S.data.toList ++ more).take r ∧ r < (Pk.enc S.size ++ S.data.toList).length) ∨ f = 20) :
    Calls Try.prog 24 #[.pointer (some ⟨B, 0, none⟩), .int .i64 (S.size : Int)] w fun e w' => e = .returned (.string ⟨#[]⟩) ∧ Rd w' B b (p : Int) 20 ∧ w.grownBy w' (some B) := by
  rcases hst with ⟨rfl, hm, hr⟩ | rfl
  · have k0 := (text_of hp hm hS).2 hr
    refine (rtext_any (most := (S.size : Int)) (by omega) h hp hb).mono fun e w' hF => ?_
    rw [show ((S.size : Int)).toNat = S.size from rfl] at hF
    obtain ⟨he, hR⟩ := hF.no (by rw [k0]; decide)
    rw [k0] at hR
    exact ⟨he, hR, hF.grown⟩
  · exact (rtext_dead h (by decide)).mono fun e w' hd => ⟨hd.1, h.below hd.2 h.lt, grown_below hd.2 _⟩

set_option maxHeartbeats 2000000 in
set_option maxRecDepth 8000 in
theorem reads_any (b : ByteArray) (hb : b.size ≤ 140737488351232) (ad : Option Addr) (ab ao len cap c : Nat) (K : Nat → Int) (N : Nat → Nat) (S : Nat → ByteArray) (w : World) (hO : Ths w ad len ab ao K N S) (hbd : b.data.toList = (Pk.pre K N S len).take c) (hcl : c ≤ (Pk.pre K N S len).length) :
    Calls Try.prog 20 #[.string b, .slice ad len cap] w fun e w' => (∃ (f : Int) (ok : Bool), e = .returned (.tuple #[.int .i64 f, .bool ok]) ∧ (c = (Pk.pre K N S len).length → f = 0 ∧ ok = true) ∧ (c < (Pk.pre K N S len).length → f = 20)) ∧ Below w.heap.size w w' := by
  have hfew := hO.few
  have hbs : b.size = c := by have : b.data.toList.length = b.size := rfl; rw [← this, hbd, List.length_take]; omega
  go_enter Try.func20, Try.ntmps20
  go_wp2_with fail
  refine (read_any b w).mono ?_
  rintro e w1 ⟨rfl, hR1, hb1⟩
  have HS1 : Hid (BRel w w.heap.size b c 0 true w1) := ⟨⟨0, 0, hR1, Nat.zero_le _, .inl ⟨Nat.zero_le _, rfl, rfl, rfl⟩⟩, hb1⟩
  have HBD := hide hbd
  have HCL := hide hcl
  have HBS := hide hbs
  clear hR1 hb1 hbd hcl hbs
  go_wp2_with fail
  go_loopw [7, 8] (fun u v wr => ∃ (i : Nat) (ok : Bool), u = .bool ok ∧ v = .int .i64 (i : Int) ∧ i ≤ len ∧ Hid (BRel w w.heap.size b c (Pk.pre K N S i).length ok wr)) (fun _ v _ => len - (intOf v).toNat)
  case atStart => exact ⟨0, true, rfl, rfl, Nat.zero_le _, HS1⟩
  case round =>
    obtain ⟨i, ok, rfl, rfl, hil, HR⟩ := hrel
    clear HS1
    by_cases hi2 : i < len
    · have hs' := hO.some (by omega)
      subst hs'
      obtain ⟨⟨p, f, hR, hp, hst⟩, hbel⟩ := HR.out
      have hck : wr.cell? ⟨ab, ao + i * 3, none⟩ = some (.int .i64 (K i)) := (hbel.cell (hO.old (by omega))).trans (hO.c0 i hi2)
      have hcn : wr.cell? ⟨ab, ao + i * 3 + 1, none⟩ = some (.int .u64 (N i : Int)) := (hbel.cell (hO.old (by omega))).trans (hO.c1 i hi2)
      have hcs : wr.cell? ⟨ab, ao + i * 3 + 2, none⟩ = some (.string (S i)) := (hbel.cell (hO.old (by omega))).trans (hO.c2 i hi2)
      have hNi := hO.bN i hi2
      have hSi := hO.bS i hi2
      have hi3 : (i : Int) < (len : Int) := by omega
      have habB : ab ≠ w.heap.size := by have := hO.old (by omega); omega
      obtain ⟨more, hmore⟩ := rest_cut HBD.out hi2
      have hpl : (Pk.pre K N S (i + 1)).length = (Pk.pre K N S i).length + (Pk.lay (K i) (N i) (S i)).length := by show (Pk.pre K N S i ++ _).length = _; rw [List.length_append]
      obtain ⟨P, hP⟩ : ∃ P, P = (Pk.pre K N S i).length := ⟨_, rfl⟩
      obtain ⟨P2, hP2⟩ : ∃ P2, P2 = (Pk.pre K N S (i + 1)).length := ⟨_, rfl⟩
      rw [← hP] at hmore hpl hst
      rw [← hP2] at hpl
      have HP2 := hide hP2
      clear hP hP2 HR hO
      generalize K i = Ki at *
      generalize N i = Ni at *
      generalize S i = Si at *
      rcases (show Ki = 1 ∨ Ki = 2 ∨ (Ki ≠ 1 ∧ Ki ≠ 2) by omega) with hK | hK | ⟨hK1, hK2⟩
      · subst hK
        have hlay : Pk.lay 1 Ni Si = Pk.enc Ni := if_pos rfl
        rw [hlay] at hmore hpl
        clear hlay
        by_cases hfit : P ≤ c ∧ P2 ≤ c
        · obtain ⟨rfl, rfl, rfl⟩ : f = 0 ∧ p = P ∧ ok = true := by
            rcases hst with ⟨_, h1, h2, h3⟩ | ⟨h1, _⟩
            · exact ⟨h1, h2, h3⟩
            · omega
          have HM := hide hmore
          have HPL := hide hpl
          have HBL := hide hbel
          clear hst hmore hpl hbel
          go_wp2_with fail
          go_region_held3 (fun w' => w'.cell? ⟨ab, ao + i * 3 + 1, none⟩ = some (.int .u64 (Ni : Int))) (go_keep) (first
            | (go_at_call 21; refine (stepA_num (hR.drew 1) hp hb HM.out hNi (by have := HPL.out; omega)).mono ?_; rintro e w3 ⟨rfl, hR3, hg3⟩; have hc3 : w3.cell? ⟨ab, ao + i * 3 + 1, none⟩ = some (.int .u64 (Ni : Int)) := hg3.cell hcn (by simpa using habB)))
          have HB3 : Hid (Below w.heap.size w w3) := below_of_grown (below_dn HBL.out 1) (Nat.le_refl _) hg3
          clear hg3
          go_wp2
          go_roundw
          case rel => exact ⟨i + 1, true, by simp, by go_num, by omega, by rw [← HP2.out]; exact ⟨⟨P2, 0, by have h9 := HPL.out; rw [h9]; exact hR3, by have := HBS.out; omega, .inl ⟨hfit.2, rfl, rfl, rfl⟩⟩, HB3.out⟩⟩
          case measure => simp [intOf]; omega
        · have hst2 : (f = 0 ∧ rest b p = (Pk.enc Ni ++ more).take (c - P) ∧ c - P < (Pk.enc Ni).length) ∨ f = 20 := by
            rcases hst with ⟨h0, h1, h2, h3⟩ | ⟨h1, h2⟩
            · left; exact ⟨h1, by rw [h2]; exact hmore, by omega⟩
            · right; exact h2
          have hc2 : c < P2 := by
            rcases hst with ⟨h0, h1, h2, h3⟩ | ⟨h1, h2⟩ <;> omega
          have HST2 := hide hst2
          have HBL := hide hbel
          clear hst hmore hpl hbel hst2 hfit
          have b9 : ((0 : Int) == (Ni : Int)) = true ∨ ((0 : Int) == (Ni : Int)) = false := by cases ((0 : Int) == (Ni : Int)) <;> simp
          rcases b9 with b9 | b9
          · go_wp2_with fail
            first
              | (go_region_held3 (fun w' => w'.cell? ⟨ab, ao + i * 3 + 1, none⟩ = some (.int .u64 (Ni : Int))) (go_keep) (first | (go_at_call 21; refine (stepB_num (hR.drew 1) hp hb hNi HST2.out).mono ?_; rintro e w3 ⟨rfl, hR3, hg3⟩; have hc3 : w3.cell? ⟨ab, ao + i * 3 + 1, none⟩ = some (.int .u64 (Ni : Int)) := hg3.cell hcn (by simpa using habB))))
              | fail
            have HB3 : Hid (Below w.heap.size w w3) := below_of_grown (below_dn HBL.out 1) (Nat.le_refl _) hg3
            clear hg3
            go_wp2
            go_roundw
            case rel => exact ⟨i + 1, _, rfl, by go_num, by omega, by rw [← HP2.out]; exact ⟨⟨p, 20, hR3, hp, .inr ⟨hc2, rfl⟩⟩, HB3.out⟩⟩
            case measure => simp [intOf]; omega
          · go_wp2_with fail
            first
              | (go_region_with (first | (go_at_call 21; refine (stepB_num (hR.drew 1) hp hb hNi HST2.out).mono ?_; rintro e w3 ⟨rfl, hR3, hg3⟩; have hc3 : w3.cell? ⟨ab, ao + i * 3 + 1, none⟩ = some (.int .u64 (Ni : Int)) := hg3.cell hcn (by simpa using habB))))
              | fail
            all_goals
              have HB3 : Hid (Below w.heap.size w w3) := below_of_grown (below_dn HBL.out 1) (Nat.le_refl _) hg3
              clear hg3
              go_wp2
              go_roundw
              case rel => exact ⟨i + 1, _, rfl, by go_num, by omega, by rw [← HP2.out]; exact ⟨⟨p, 20, hR3, hp, .inr ⟨hc2, rfl⟩⟩, HB3.out⟩⟩
              case measure => simp [intOf]; omega
      · subst hK
        have hlay : Pk.lay 2 Ni Si = Pk.big8 Ni := rfl
        rw [hlay] at hmore hpl
        clear hlay
        by_cases hfit : P ≤ c ∧ P2 ≤ c
        · obtain ⟨rfl, rfl, rfl⟩ : f = 0 ∧ p = P ∧ ok = true := by
            rcases hst with ⟨_, h1, h2, h3⟩ | ⟨h1, _⟩
            · exact ⟨h1, h2, h3⟩
            · omega
          have HM := hide hmore
          have HPL := hide hpl
          have HBL := hide hbel
          clear hst hmore hpl hbel
          go_wp2_with fail
          go_region_held3 (fun w' => w'.cell? ⟨ab, ao + i * 3 + 1, none⟩ = some (.int .u64 (Ni : Int))) (go_keep) (first
            | (go_at_call 23; refine (stepA_bits (hR.drew 1) hp hb HM.out hNi (by have := HPL.out; have e8 : (Pk.big8 Ni).length = 8 := rfl; omega)).mono ?_; rintro e w3 ⟨rfl, hR3, hg3⟩; have hc3 : w3.cell? ⟨ab, ao + i * 3 + 1, none⟩ = some (.int .u64 (Ni : Int)) := hg3.cell hcn (by simpa using habB)))
          have HB3 : Hid (Below w.heap.size w w3) := below_of_grown (below_dn HBL.out 1) (Nat.le_refl _) hg3
          clear hg3
          go_wp2
          go_roundw
          case rel => exact ⟨i + 1, true, by simp, by go_num, by omega, by rw [← HP2.out]; exact ⟨⟨P2, 0, by have h9 := HPL.out; rw [h9]; exact hR3, by have := HBS.out; omega, .inl ⟨hfit.2, rfl, rfl, rfl⟩⟩, HB3.out⟩⟩
          case measure => simp [intOf]; omega
        · have hst2 : (f = 0 ∧ rest b p = (Pk.big8 Ni ++ more).take (c - P) ∧ c - P < 8) ∨ f = 20 := by
            rcases hst with ⟨h0, h1, h2, h3⟩ | ⟨h1, h2⟩
            · left; exact ⟨h1, by rw [h2]; exact hmore, by have e8 : (Pk.big8 Ni).length = 8 := rfl; omega⟩
            · right; exact h2
          have hc2 : c < P2 := by
            rcases hst with ⟨h0, h1, h2, h3⟩ | ⟨h1, h2⟩ <;> omega
          have HST2 := hide hst2
          have HBL := hide hbel
          clear hst hmore hpl hbel hst2 hfit
          have b9 : ((0 : Int) == (Ni : Int)) = true ∨ ((0 : Int) == (Ni : Int)) = false := by cases ((0 : Int) == (Ni : Int)) <;> simp
          rcases b9 with b9 | b9
          · go_wp2_with fail
            first
              | (go_region_held3 (fun w' => w'.cell? ⟨ab, ao + i * 3 + 1, none⟩ = some (.int .u64 (Ni : Int))) (go_keep) (first | (go_at_call 23; refine (stepB_bits (hR.drew 1) hp hb hNi HST2.out).mono ?_; rintro e w3 ⟨rfl, hR3, hg3⟩; have hc3 : w3.cell? ⟨ab, ao + i * 3 + 1, none⟩ = some (.int .u64 (Ni : Int)) := hg3.cell hcn (by simpa using habB))))
              | fail
            have HB3 : Hid (Below w.heap.size w w3) := below_of_grown (below_dn HBL.out 1) (Nat.le_refl _) hg3
            clear hg3
            go_wp2
            go_roundw
            case rel => exact ⟨i + 1, _, rfl, by go_num, by omega, by rw [← HP2.out]; exact ⟨⟨p, 20, hR3, hp, .inr ⟨hc2, rfl⟩⟩, HB3.out⟩⟩
            case measure => simp [intOf]; omega
          · go_wp2_with fail
            first
              | (go_region_with (first | (go_at_call 23; refine (stepB_bits (hR.drew 1) hp hb hNi HST2.out).mono ?_; rintro e w3 ⟨rfl, hR3, hg3⟩; have hc3 : w3.cell? ⟨ab, ao + i * 3 + 1, none⟩ = some (.int .u64 (Ni : Int)) := hg3.cell hcn (by simpa using habB))))
              | fail
            all_goals
              have HB3 : Hid (Below w.heap.size w w3) := below_of_grown (below_dn HBL.out 1) (Nat.le_refl _) hg3
              clear hg3
              go_wp2
              go_roundw
              case rel => exact ⟨i + 1, _, rfl, by go_num, by omega, by rw [← HP2.out]; exact ⟨⟨p, 20, hR3, hp, .inr ⟨hc2, rfl⟩⟩, HB3.out⟩⟩
              case measure => simp [intOf]; omega
      · have b1 : (Ki == 1) = false := by rw [beq_eq_false_iff_ne]; exact hK1
        have b2 : (Ki == 2) = false := by rw [beq_eq_false_iff_ne]; exact hK2
        have hlay : Pk.lay Ki Ni Si = Pk.enc Si.size ++ Si.data.toList := (by unfold Pk.lay; rw [if_neg hK1, if_neg hK2])
        rw [hlay] at hmore hpl
        clear hlay
        by_cases hfit : P ≤ c ∧ P2 ≤ c
        · obtain ⟨rfl, rfl, rfl⟩ : f = 0 ∧ p = P ∧ ok = true := by
            rcases hst with ⟨_, h1, h2, h3⟩ | ⟨h1, _⟩
            · exact ⟨h1, h2, h3⟩
            · omega
          have HM := hide hmore
          have HPL := hide hpl
          have HBL := hide hbel
          clear hst hmore hpl hbel
          go_wp2_with fail
          go_region_held3 (fun w' => w'.cell? ⟨ab, ao + i * 3 + 2, none⟩ = some (.string Si)) (go_keep) (first
            | (go_at_call 24; refine (stepA_text (hR.drew 1) hp hb HM.out hSi (by have := HPL.out; omega)).mono ?_; rintro e w3 ⟨rfl, hR3, hg3⟩; have hc3 : w3.cell? ⟨ab, ao + i * 3 + 2, none⟩ = some (.string Si) := hg3.cell hcs (by simpa using habB)))
          have HB3 : Hid (Below w.heap.size w w3) := below_of_grown (below_dn HBL.out 1) (Nat.le_refl _) hg3
          clear hg3
          go_wp2
          go_roundw
          case rel => exact ⟨i + 1, true, by simp, by go_num, by omega, by rw [← HP2.out]; exact ⟨⟨P2, 0, by have h9 := HPL.out; rw [h9]; exact hR3, by have := HBS.out; omega, .inl ⟨hfit.2, rfl, rfl, rfl⟩⟩, HB3.out⟩⟩
          case measure => simp [intOf]; omega
        · have hst2 : (f = 0 ∧ rest b p = (Pk.enc Si.size ++ Si.data.toList ++ more).take (c - P) ∧ c - P < (Pk.enc Si.size ++ Si.data.toList).length) ∨ f = 20 := by
            rcases hst with ⟨h0, h1, h2, h3⟩ | ⟨h1, h2⟩
            · left; exact ⟨h1, by rw [h2]; exact hmore, by omega⟩
            · right; exact h2
          have hc2 : c < P2 := by
            rcases hst with ⟨h0, h1, h2, h3⟩ | ⟨h1, h2⟩ <;> omega
          have HST2 := hide hst2
          have HBL := hide hbel
          clear hst hmore hpl hbel hst2 hfit
          have b9 : (([] : List UInt8) == Si.toList) = true ∨ (([] : List UInt8) == Si.toList) = false := by cases (([] : List UInt8) == Si.toList) <;> simp
          rcases b9 with b9 | b9
          · go_wp2_with fail
            first
              | (go_region_held3 (fun w' => w'.cell? ⟨ab, ao + i * 3 + 2, none⟩ = some (.string Si)) (go_keep) (first | (go_at_call 24; refine (stepB_text (hR.drew 1) hp hb hSi HST2.out).mono ?_; rintro e w3 ⟨rfl, hR3, hg3⟩; have hc3 : w3.cell? ⟨ab, ao + i * 3 + 2, none⟩ = some (.string Si) := hg3.cell hcs (by simpa using habB))))
              | fail
            have HB3 : Hid (Below w.heap.size w w3) := below_of_grown (below_dn HBL.out 1) (Nat.le_refl _) hg3
            clear hg3
            go_wp2
            go_roundw
            case rel => exact ⟨i + 1, _, rfl, by go_num, by omega, by rw [← HP2.out]; exact ⟨⟨p, 20, hR3, hp, .inr ⟨hc2, rfl⟩⟩, HB3.out⟩⟩
            case measure => simp [intOf]; omega
          · go_wp2_with fail
            first
              | (go_region_with (first | (go_at_call 24; refine (stepB_text (hR.drew 1) hp hb hSi HST2.out).mono ?_; rintro e w3 ⟨rfl, hR3, hg3⟩; have hc3 : w3.cell? ⟨ab, ao + i * 3 + 2, none⟩ = some (.string Si) := hg3.cell hcs (by simpa using habB))))
              | fail
            all_goals
              have HB3 : Hid (Below w.heap.size w w3) := below_of_grown (below_dn HBL.out 1) (Nat.le_refl _) hg3
              clear hg3
              go_wp2
              go_roundw
              case rel => exact ⟨i + 1, _, rfl, by go_num, by omega, by rw [← HP2.out]; exact ⟨⟨p, 20, hR3, hp, .inr ⟨hc2, rfl⟩⟩, HB3.out⟩⟩
              case measure => simp [intOf]; omega
    · obtain ⟨⟨p, f, hR, hp, hst⟩, hbel⟩ := HR.out
      have hil2 : i = len := by omega
      have b0 : decide ((i : Int) < (len : Int)) = false := by simp; omega
      rw [hil2] at hst
      have HB := hide hbel
      have hcl := HCL.out
      have hbs := HBS.out
      obtain ⟨LL, hLL⟩ : ∃ LL, LL = (Pk.pre K N S len).length := ⟨_, rfl⟩
      rw [← hLL] at hst hcl
      have HLL := hide hLL
      clear hLL hil2 HR hO hbel HCL HBS HBD
      rcases hst with ⟨h0, rfl, rfl, rfl⟩ | ⟨h0, rfl⟩
      · have HE : Hid (Calls Try.prog 29 #[.pointer (some ⟨w.heap.size, 0, none⟩)] wr fun e w' => e = .returned (.tuple #[.int .i64 0, .int .i64 0]) ∧ ∃ n, w' = wr.drewN n) := by
          have h := end_any hR (by omega) (by omega) hb
          rw [show endE b (p : Int) 0 = 0 by unfold endE; rw [if_neg (by omega)], show endP b (p : Int) 0 = 0 by unfold endP; rw [if_pos (by omega)]] at h
          exact h
        have hcp : c = p := by omega
        have HCP := hide hcp
        clear hcp hbs hcl h0
        go_wp2_with (go_at_call 29; refine HE.out.mono ?_; rintro e w4 ⟨rfl, n4, rfl⟩)
        go_ret2
        exact ⟨⟨0, true, rfl, fun _ => ⟨rfl, rfl⟩, fun h9 => by have := HCP.out; have := HLL.out; omega⟩, below_dn HB.out _⟩
      · have HE : Hid (Calls Try.prog 29 #[.pointer (some ⟨w.heap.size, 0, none⟩)] wr fun e w' => e = .returned (.tuple #[.int .i64 20, .int .i64 (p : Int)]) ∧ ∃ n, w' = wr.drewN n) := by
          have h := end_any hR (by omega) (by omega) hb
          rw [show endE b (p : Int) 20 = 20 by unfold endE; rw [if_neg (by omega)], show endP b (p : Int) 20 = p by unfold endP; rw [if_neg (by omega)]] at h
          exact h
        have HC2 := hide h0
        clear hbs hcl h0
        go_wp2_with (go_at_call 29; refine HE.out.mono ?_; rintro e w4 ⟨rfl, n4, rfl⟩)
        go_ret2
        exact ⟨⟨20, ok, rfl, fun h9 => by have := HC2.out; have := HLL.out; omega, fun _ => rfl⟩, below_dn HB.out _⟩
end Go.Proofs.Ytajbkgahgnkodaa
