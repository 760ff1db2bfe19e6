import Derived.Test.YtmkfhcdmcncgkaaSxWm
import Derived.Deep.DeepCutAuto
namespace Go.Proofs.Ytmkfhcdmcncgkaa
open Go.RowKit Go.Shelf

set_option maxHeartbeats 16000000 in
set_option maxRecDepth 8000 in
theorem stitchWhole_walk {w : World} {x : Int} (_hx : -9223372036854775808 ≤ x ∧ x ≤ 9223372036854775807) {ad : Option Addr} {ab ao cap : Nat} {T : List ByteArray} (hT : Tr w ad ab ao T) (hTl : T.length ≤ 8796093021952) (_t : True) {od : Option Addr} {ob oo ocap : Nat} {O : List Int} (hO : Ir w od ob oo O) (hOl : O.length ≤ 17592186044416) (hOb : ∀ i (h : i < O.length), I6 O[i]) :
    Calls Try.prog 4 #[.int .i64 x, .slice ad T.length cap, .slice od O.length ocap] w fun e w' => e = .returned (.bool true) ∧ Below w.heap.size w w' := by
  have HT := hide hT
  have HO := hide hO
  have HOB := hide hOb
  clear hT hO hOb
  cases hn : nok x 0 with
  | false =>
    have HN := hide (new_no hn w)
    go_enter Try.func4, Try.ntmps4
    go_wp2_with fail
    refine HN.out.mono ?_
    rintro e w1 ⟨rfl, rfl⟩
    go_wp2_with fail
    refine (awake_any _).mono ?_
    rintro e w2 ⟨rfl, hB2⟩
    go_wp2_with fail
    go_ret
    exact ⟨rfl, hB2⟩
  | true =>
    have HN := hide (new_yes hn w)
    have HNK := hide hn
    clear hn
    go_enter Try.func4, Try.ntmps4
    go_wp2_with fail
    refine HN.out.mono ?_
    rintro e w1 ⟨rfl, hW1, hB1⟩
    obtain ⟨b, hb⟩ : ∃ b, w.heap.size + 1 = b := ⟨_, rfl⟩
    obtain ⟨m, hm⟩ : ∃ m, w.heap.size = m := ⟨_, rfl⟩
    rw [show Value.pointer (some ⟨w.heap.size + 1, 0, none⟩) = Value.pointer (some ⟨b, 0, none⟩) by rw [hb]]
    have HC0 : Hid (Cy w b m ⟨x, 0, []⟩ w1) := by rw [hb, hm] at hW1; exact ⟨hW1, ok_new HNK.out, hB1, by omega, by omega⟩
    have HWl := hide (wl_new HNK.out T)
    clear HN HNK hW1 hB1 hb hm
    go_wp2_with fail
    refine (awake_any _).mono ?_
    rintro e w2 ⟨rfl, hB2⟩
    have HC := hide (HC0.out.below hB2)
    clear HC0 hB2
    by_cases h0 : T.length = 0
    · rw [h0]
      go_wp2_with fail
      go_ret
      exact ⟨rfl, HC.out.bel⟩
    have e0 : ((T.length : Int) == 0) = false := by simpa using h0
    by_cases h32 : 32 < T.length
    · have e1 : decide (32 < (T.length : Int)) = true := decide_eq_true (by omega)
      go_wp2_with fail
      go_ret
      exact ⟨rfl, HC.out.bel⟩
    have e1 : decide (32 < (T.length : Int)) = false := decide_eq_false (by omega)
    have hat := HT.out.at_ (by omega)
    subst hat
    have hlt : ab < w2.heap.size := Nat.lt_of_lt_of_le (HT.out.lt (by omega)) HC.out.bel.size
    have hT0 : 0 < T.length := by omega
    have hT32 : T.length ≤ 32 := by omega
    have HTd : Hid (∀ V, Below w.heap.size w V → ∀ j (h : j < T.length), V.cell? ⟨ab, ao + j, none⟩ = some (.string T[j])) := hide fun V hV j hj => (HT.out.below hV).c j hj
    clear h0 h32
    go_wp2_with fail
    go_loopw [9] (fun t wr => ∃ i : Nat, i ≤ T.length ∧ t = .int .i64 (i : Int) ∧ Hid (∀ j (h : j < T.length), j < i → (T[j]).size ≤ 32) ∧ wr = w2) (fun t _ => T.length - (intOf t).toNat)
    case atStart => exact ⟨0, Nat.zero_le _, rfl, hide fun j _ h => absurd h (by omega), rfl⟩
    case round =>
      obtain ⟨i, hi, rfl, HS, hwr⟩ := hrel
      subst hwr
      by_cases hit : i < T.length
      · have ci := HTd.out _ HC.out.bel i hit
        obtain ⟨t, ht⟩ : ∃ t, T[i] = t := ⟨_, rfl⟩
        rw [ht] at ci
        by_cases ht32 : 32 < t.size
        · clear ht
          go_wp2_with fail
          go_ret
          exact ⟨rfl, HC.out.bel⟩
        · have HS2 : Hid (∀ j (h : j < T.length), j < i + 1 → (T[j]).size ≤ 32) := hide fun j h hj => by
            by_cases e : j < i
            · exact HS.out j h e
            · have : j = i := by omega
              subst this
              rw [ht]; omega
          clear ht
          go_wp2_with fail
          go_roundw
          case rel => exact ⟨i + 1, by omega, by go_num, HS2, trivial⟩
          case measure => simp only [intOf]; omega
      · have hie : i = T.length := by omega
        subst hie
        have HT32 : Hid (∀ j (h : j < T.length), (T[j]).size ≤ 32) := hide fun j h => HS.out j h h
        obtain ⟨N2, hN2⟩ : ∃ N2, T.length * T.length = N2 := ⟨_, rfl⟩
        have hN2b : N2 ≤ 1024 := by rw [← hN2]; exact Nat.mul_le_mul hT32 hT32
        have hN2i : (T.length : Int) * (T.length : Int) = (N2 : Int) := by rw [← hN2]; simp
        have HN2 := hide hN2
        have hL0i : (T.length : Int) ≠ 0 := by omega
        have hL1i : (T.length : Int) ≠ -1 := by omega
        clear HS hit hN2 hi hlt
        go_wp2_with fail
        go_loopw [10, 11, 12, 13, 14, 15, 16, 17] (fun u10 u11 _ _ _ _ _ _ wr => ∃ (i n : Nat) (s : Sw), u10 = .int .i64 (n : Int) ∧ u11 = .int .i64 (i : Int) ∧ i ≤ O.length + N2 ∧ n ≤ 32 ∧ Hid (Cy w b m s wr) ∧ Hid (Wl T s ∧ s.nxt = (n : Int) ∧ s.win = x ∧ Pg O.length T.length i n)) (fun _ u11 _ _ _ _ _ _ _ => O.length + N2 - (intOf u11).toNat)
        case atStart => exact ⟨0, 0, _, rfl, rfl, Nat.zero_le _, by omega, HC, hide ⟨HWl.out, rfl, rfl, .inl (Nat.zero_le _)⟩⟩
        case round =>
          clear HC HWl
          obtain ⟨i, n, s, rfl, rfl, hi, hn32, HC, HX⟩ := hrel
          by_cases hio : i < O.length + N2
          · have hii : decide ((i : Int) < (O.length : Int) + (N2 : Int)) = true := decide_eq_true (by omega)
            go_upto_if 75 with fail
            go_cut [12] (fun u12 wc => ∃ k : Nat, u12 = .int .i64 (k : Int) ∧ k < T.length ∧ Hid (O.length ≤ i → k = i % T.length) ∧ wc = wr)
            case first =>
              by_cases hlo : i < O.length
              · have hot := HO.out.at_ (by omega)
                subst hot
                have ci := (HO.out.below HC.out.bel).c i hlo
                have ht1 : (O[i]).tmod (T.length : Int) < (T.length : Int) := Int.tmod_lt_of_pos _ (by omega)
                have ht2 : -(T.length : Int) < (O[i]).tmod (T.length : Int) := Int.lt_tmod_of_pos _ (by omega)
                have hz := HOB.out i hlo
                generalize O[i] = z at *
                go_upto_region 18 with fail
                generalize z.tmod (T.length : Int) = t at *
                by_cases h0 : t < 0
                · go_wp2_with fail
                  go_meet
                  case rel => exact ⟨(t + (T.length : Int)).toNat, by congr 1; omega, by omega, hide fun h => absurd h (by omega), rfl⟩
                · go_wp2_with fail
                  go_meet
                  case rel => exact ⟨t.toNat, by congr 1; omega, by omega, hide fun h => absurd h (by omega), rfl⟩
              · go_wp2_with fail
                go_meet
                case rel => exact ⟨i % T.length, by simp, Nat.mod_lt _ hT0, hide fun _ => rfl, rfl⟩
            case rest =>
              obtain ⟨k, rfl, hk, HKi, hwc⟩ := hcut
              subst hwc
              obtain ⟨t, ht⟩ : ∃ t, T[k] = t := ⟨_, rfl⟩
              have ck := HTd.out _ HC.out.bel k hk
              rw [ht] at ck
              have hP := HX.out.1.take (k := k) (t := t) (by rw [List.getElem?_eq_getElem hk, ht]) (by rw [← ht]; exact HT32.out k hk) hT32
              have HP := hide hP
              have hlt : ab < wc.heap.size := World.block_lt_of_cell? _ _ ck
              clear ht hP
              go_wp2_with fail
              refine (take_any HC.out.sb HC.out.ok k t).mono ?_
              rintro e W1 ⟨v1, rfl, hr1, hw1, hm1⟩
              have HC1 := hide (HC.out.take k t hw1 hm1)
              have HR1 := hide hr1
              obtain ⟨adU, capU, hv1⟩ := own_slice hr1
              subst hv1
              obtain ⟨E, hE⟩ : ∃ E, s.bad k t = E := ⟨_, rfl⟩
              obtain ⟨U, hU⟩ : ∃ U, s.out k t = U := ⟨_, rfl⟩
              obtain ⟨r, hr⟩ : ∃ r, s.tk k t = r := ⟨_, rfl⟩
              have HB0 := hide HP.out.bad
              have HLn := hide HP.out.len
              have HGt := hide HP.out.get
              have HOn := hide HP.out.on
              have HWr := hide HP.out.wl
              have hrw := s.tk_win k t
              rw [hE, hU] at HB0
              rw [hU] at HGt HR1
              rw [hU, hr] at HLn
              rw [hr] at HOn HWr HC1 hrw
              rw [hE, hU]
              have HX2 := hide (And.intro HX.out.2.1 (And.intro (hrw.trans HX.out.2.2.1) HX.out.2.2.2))
              clear HP hr1 hw1 hm1 HC HX hE hU hr hrw ck
              obtain ⟨Kl, hKl⟩ : ∃ Kl, U.length = Kl := ⟨_, rfl⟩
              rw [hKl] at HR1 HLn ⊢
              have hEU : Hid (E = 0 ∨ Kl = 0) := hide (by
                by_cases h : E = 0
                · exact .inl h
                · have := HB0.out h
                  rw [this] at hKl
                  exact .inr hKl.symm)
              have hKb : Kl ≤ 32 := by
                have h1 := HLn.out
                have h2 := HX2.out.1
                have h3 := HWr.out.ok.n32
                omega
              have HGc : Hid (∀ j, j < Kl → ∃ tx, W1.cell? ⟨ab, ao + (n + j), none⟩ = some (.string tx) ∧ (∃ g, adU = some ⟨g, 0, none⟩ ∧ W1.cell? ⟨g, j, none⟩ = some (.string tx)) ∧ n + j < T.length) := hide fun j hj => by
                have h1 := HGt.out j (U[j]'(by omega)) (List.getElem?_eq_getElem _)
                rw [HX2.out.1, Int.toNat_natCast] at h1
                obtain ⟨h2, h3⟩ := List.getElem?_eq_some_iff.1 h1
                obtain ⟨g, c, h4, _, _⟩ := own_at HR1.out (by omega)
                injection h4 with h4 _ h5
                subst h4
                refine ⟨U[j]'(by omega), ?_, ⟨g, rfl, ?_⟩, h2⟩
                · rw [← h3]; exact HTd.out _ HC1.out.bel _ h2
                · subst h5
                  exact own_cell HR1.out (by simp [tcs, List.getElem?_eq_getElem (show j < U.length by omega)])
              clear HGt HB0 hKl
              go_upto_region 21 with fail
              go_cut [105] (fun u105 wc => u105 = .bool false ∧ wc = W1)
              case first =>
                rcases hEU.out with h | h
                · subst h
                  go_wp2_with fail
                  go_meet
                  case rel => exact ⟨rfl, rfl⟩
                · subst h
                  by_cases h2 : E = 0
                  · subst h2
                    go_wp2_with fail
                    go_meet
                    case rel => exact ⟨rfl, rfl⟩
                  · have e2 : (E != 0) = true := by simpa using h2
                    go_wp2_with fail
                    go_meet
                    case rel => exact ⟨rfl, rfl⟩
              case rest =>
              obtain ⟨rfl, hwc⟩ := hcut
              have hwc1 := hwc.symm
              clear hwc
              subst hwc1
              go_wp2_with fail
              go_loopw [10, 15] (fun u10 u15 wx => ∃ j p q : Nat, u15 = .int .i64 (j : Int) ∧ j ≤ Kl ∧ u10 = .int .i64 (p : Int) ∧ Hid (p = n + j) ∧ Hid (wx = W1.drewN q)) (fun _ u15 _ => Kl - (intOf u15).toNat)
              case atStart => exact ⟨0, n, 0, rfl, Nat.zero_le _, rfl, rfl, rfl⟩
              case round =>
                obtain ⟨j, p, q, rfl, hj, rfl, HPj, HWx⟩ := hrel
                have hwx := HWx.out
                subst hwx
                by_cases hjk : j < Kl
                · obtain ⟨tx, k1, ⟨g, hg, k2⟩, k3⟩ := HGc.out j hjk
                  subst hg
                  rw [← HPj.out] at k1 k3
                  have f1 : ¬ T.length ≤ p := by omega
                  have hlt2 : ab < W1.heap.size := World.block_lt_of_cell? _ _ k1
                  have hlt3 : g < W1.heap.size := World.block_lt_of_cell? _ _ k2
                  go_wp2_with fail
                  go_quiet (fail)
                  go_wp2_with fail
                  go_roundw
                  case rel => exact ⟨j + 1, p + 1, _, by go_num, by omega, by go_num, by have := HPj.out; show p + 1 = n + (j + 1); omega, rfl⟩
                  case measure => simp only [intOf]; omega
                · have hje : j = Kl := by omega
                  subst hje
                  have HC2 := hide (HC1.out.below (below_drewN W1 q))
                  have hrn : r.nxt = (p : Int) := by
                    have h1 := HLn.out
                    have h2 := HX2.out.1
                    have h3 := HPj.out
                    omega
                  have HRn := hide hrn
                  have hp32 : p ≤ 32 := by have := HWr.out.ok.n32; omega
                  have HPg : Hid (Pg O.length T.length (i + 1) p) := hide (HX2.out.2.2.step (by have := HPj.out; omega) HKi.out (fun e => by
                    have h1 := HOn.out (by rw [HX2.out.1, e])
                    rw [HX2.out.1, hrn] at h1
                    omega) (by rw [HN2.out]; exact hio))
                  clear HC1 HGc HWx hrn
                  go_wp2_with fail
                  refine (held_any HC2.out.sb (by have := HC2.out.ok.len8; omega)).mono ?_
                  rintro e W3 ⟨v3, rfl, hr3, hb3⟩
                  have HC3 := hide (HC2.out.below hb3)
                  have HR3 := hide hr3
                  obtain ⟨adH, capH, hv3⟩ := own_slice hr3
                  subst hv3
                  obtain ⟨NH, hNH⟩ : ∃ NH, r.L.length = NH := ⟨_, rfl⟩
                  rw [hNH]
                  have hNb : (NH : Int) ≤ x - 1 := by
                    have h1 := HC3.out.ok.len
                    rw [HX2.out.2.1, hNH] at h1
                    exact h1
                  have hx8 : x ≤ 8 := by have h1 := HC3.out.ok.w8; rw [HX2.out.2.1] at h1; exact h1
                  have hx1 : 1 ≤ x := by have h1 := HC3.out.ok.w1; rw [HX2.out.2.1] at h1; exact h1
                  have hNd : decide (x ≤ (NH : Int)) = false := decide_eq_false (by omega)
                  have HHc : Hid (∀ j, j < NH → ∃ z, (∃ g, adH = some ⟨g, 0, none⟩ ∧ W3.cell? ⟨g, j, none⟩ = some (.int .i64 z) ∧ (0 < j → ∃ y, W3.cell? ⟨g, j - 1, none⟩ = some (.int .i64 y) ∧ y < z)) ∧ (p : Int) < z ∧ z < (p : Int) + x) := hide fun j hj => by
                    obtain ⟨z, z1, z2, z3, z4, z5⟩ := HC3.out.ok.nos (j := j) (by omega)
                    rw [HRn.out] at z2 z3
                    rw [HX2.out.2.1] at z3
                    obtain ⟨g, c, h4, _, _⟩ := own_at HR3.out (by omega)
                    injection h4 with h4 _ h5
                    subst h4; subst h5
                    refine ⟨z, ⟨g, rfl, own_cell HR3.out (by rw [List.getElem?_map, z1]; rfl), fun h0 => ?_⟩, z2, z3⟩
                    obtain ⟨y, y1, y2⟩ := z5 h0
                    exact ⟨y, own_cell HR3.out (by rw [List.getElem?_map, y1]; rfl), y2⟩
                  have hN := next_any HC3.out.sb
                  rw [HRn.out] at hN
                  have HNx := hide hN
                  have HHL := hide hNH
                  clear hr3 hb3 HC2 hN HR3 hNH
                  go_wp2_with fail
                  refine HNx.out.mono ?_
                  rintro e y3 ⟨rfl, hy3⟩
                  subst hy3
                  clear HNx
                  go_wp2_with fail
                  have hNH7 : NH ≤ 7 := by omega
                  go_loopw [17] (fun u17 wx => ∃ j q : Nat, u17 = .int .i64 (j : Int) ∧ j ≤ NH ∧ Hid (wx = y3.drewN q)) (fun u17 _ => NH - (intOf u17).toNat)
                  case atStart => exact ⟨0, 0, rfl, Nat.zero_le _, rfl⟩
                  case round =>
                    obtain ⟨j4, q4, rfl, hj4, HWx⟩ := hrel
                    have hwx := HWx.out
                    subst hwx
                    by_cases hjn : j4 < NH
                    · obtain ⟨z, ⟨g, hg, k1, k2⟩, k3, k4⟩ := HHc.out j4 hjn
                      subst hg
                      have f1 : decide (z ≤ (p : Int)) = false := decide_eq_false (by omega)
                      have f2 : decide ((p : Int) + x ≤ z) = false := decide_eq_false (by omega)
                      have hlt3 : g < y3.heap.size := World.block_lt_of_cell? _ _ k1
                      cases j4 with
                      | zero =>
                        clear k2 k3 k4
                        go_wp2_with fail
                        go_quiet (fail)
                        go_wp2_with fail
                        go_roundw
                        case rel => exact ⟨1, _, by go_num, by omega, rfl⟩
                        case measure => simp only [intOf]; omega
                      | succ j5 =>
                        obtain ⟨y, k5, k6⟩ := k2 (by omega)
                        rw [Nat.add_sub_cancel] at k5
                        have f3 : decide (z ≤ y) = false := decide_eq_false (by omega)
                        have hj5 : j5 < NH := by omega
                        clear k2 k3 k4 k6
                        go_wp2_with fail
                        go_quiet (fail)
                        go_wp2_with fail
                        go_roundw
                        case rel => exact ⟨j5 + 1 + 1, _, by go_num, by omega, rfl⟩
                        case measure => simp only [intOf]; omega
                    · have HC4 := hide (HC3.out.below (below_drewN y3 q4))
                      clear HHc HWx HC3
                      go_wp2_with fail
                      go_roundw
                      case rel => exact ⟨i + 1, p, r, rfl, by go_num, by omega, hp32, HC4, hide ⟨HWr.out, HRn.out, HX2.out.2.1, HPg.out⟩⟩
                      case measure => simp only [intOf]; omega
          · have hnT : T.length ≤ n := HX.out.2.2.2.done hT0 (by rw [HN2.out]; exact hio)
            obtain ⟨h1, h2⟩ := HX.out.1.end_ (by rw [HX.out.2.1]; omega)
            have hne : n = T.length := by have := HX.out.2.1; omega
            have hiF : decide ((i : Int) < (O.length : Int) + (N2 : Int)) = false := decide_eq_false (by omega)
            have HH := hide (held_any HC.out.sb (by have := HC.out.ok.len8; omega))
            rw [h2] at HH
            subst hne
            clear h1 h2 hnT
            go_wp2_with fail
            refine HH.out.mono ?_
            rintro e W3 ⟨v3, rfl, hr3, hb3⟩
            obtain ⟨ad3, cap3, hv3⟩ := own_slice hr3
            subst hv3
            have HB3 := hide (HC.out.below hb3).bel
            simp only [List.length_nil]
            clear hr3 hb3 HH
            go_wp2_with fail
            go_ret
            exact ⟨rfl, HB3.out⟩
end Go.Proofs.Ytmkfhcdmcncgkaa
