import Derived.Test.YtjpcghkdedldiaaLsRf
namespace Go.Proofs.Ytjpcghkdedldiaa
open Go.RowKit

/-- one lease, three of them -/
def W1 (l : Int) : List Lz := [⟨1, 5, 2, 1, l⟩]
def W3 (l : Int) : List Lz := [⟨1, 5, 2, 1, l⟩, ⟨3, 7, 2, 1, l⟩, ⟨2, 9, 2, 1, l⟩]
theorem w1_tick {l : Int} (h : 1 < l) : tkL (W1 l) = W1 (l - 1) ∧ tkO (W1 l) = [] := by
  simp [tkL, tkO, W1, h, dec]
theorem w3_tick {l : Int} (h : 1 < l) : tkL (W3 l) = W3 (l - 1) ∧ tkO (W3 l) = [] := by
  simp [tkL, tkO, W3, h, dec]
theorem w3_last : tkL (W3 1) = [] ∧ tkO (W3 1) = [⟨1, 5, 2, 1, 0⟩, ⟨3, 7, 2, 1, 0⟩, ⟨2, 9, 2, 1, 0⟩] := by decide
theorem w1_renew (T l : Int) : rnw T 5 (W1 l) = W1 T ∧ naE 5 (W1 l) = 0 := by
  simp [rnw, W1, naE, has]
theorem w1_grant (T : Int) : grE [] 1 5 = 0 ∧ grL T [] 1 5 2 1 = W1 T := by
  have h : grE [] 1 5 = 0 := by decide
  refine ⟨h, ?_⟩
  unfold grL
  rw [if_pos h]
  rfl
theorem w2_grant (T : Int) : grE (W1 T) 2 9 = 0 ∧ grL T (W1 T) 2 9 2 1 = [⟨1, 5, 2, 1, T⟩, ⟨2, 9, 2, 1, T⟩] := by
  have h : grE (W1 T) 2 9 = 0 := by simp [grE, thr, W1]
  refine ⟨h, ?_⟩
  unfold grL
  rw [if_pos h]
  simp [put, del, ins, W1]
theorem w3_grant (T : Int) : grE [(⟨1, 5, 2, 1, T⟩ : Lz), ⟨2, 9, 2, 1, T⟩] 3 7 = 0 ∧ grL T [⟨1, 5, 2, 1, T⟩, ⟨2, 9, 2, 1, T⟩] 3 7 2 1 = W3 T := by
  have h : grE [(⟨1, 5, 2, 1, T⟩ : Lz), ⟨2, 9, 2, 1, T⟩] 3 7 = 0 := by simp [grE, thr]
  refine ⟨h, ?_⟩
  unfold grL
  rw [if_pos h]
  simp [put, del, ins, W3]
theorem w3_find (l : Int) : fnd 5 (W3 l) = ⟨1, 5, 2, 1, l⟩ ∧ has 5 (W3 l) = true := by
  simp [fnd, has, W3]

/-- the box of the address -/
def Ad (W : World) (H : Nat) : Prop := W.heap[H]? = some (.cells #[.int .i64 2, .int .i64 1] 36 (0, 0))
theorem Ad.lt {W : World} {H : Nat} (h : Ad W H) : H < W.heap.size := lt_of_block h
theorem Ad.below {W W' : World} {H : Nat} (h : Ad W H) (hb : Below W.heap.size W W') : Ad W' H := (hb.block _ h.lt).trans h
theorem Ad.map {W W' : World} {H m : Nat} (h : Ad W H) (hm : ∃ es c, W.heap[m]? = some (.map es c)) (hg : W.grownBy W' (some m)) : Ad W' H := (hg.block _ h.lt (fun e => by
  injection e with e
  obtain ⟨es, c, h1⟩ := hm
  rw [← e, show W.heap[H]? = _ from h] at h1
  cases h1)).trans h
theorem Ad.c {W : World} {H : Nat} (h : Ad W H) : W.cell? ⟨H, 0, none⟩ = some (.int .i64 2) ∧ W.cell? ⟨H, 1, none⟩ = some (.int .i64 1) := by
  unfold Ad at h
  simp [World.cell?, h]
/-- where LeaseWaits stands -/
structure Wt (w : World) (T : Int) (H : Nat) (L : List Lz) (W : World) : Prop where
  tn : Tn w T L W
  ad : Ad W H
section
variable {w W W' : World} {T : Int} {H : Nat} {L L' : List Lz}
theorem Wt.below (h : Wt w T H L W) (hb : Below W.heap.size W W') : Wt w T H L W' := ⟨h.tn.below hb, h.ad.below hb⟩
theorem Wt.turn (h : Wt w T H L W) (ht : Ta W' (w.heap.size + 1) w.heap.size T L') (hg : W.grownBy W' (some w.heap.size)) : Wt w T H L' W' := ⟨h.tn.turn ht hg, h.ad.map h.tn.ta.tb.map.block hg⟩
end

set_option maxRecDepth 100000 in
set_option maxHeartbeats 8000000 in
theorem leaseWaits_walk {w : World} {T : Int} {ad : Option Addr} {cap ab ao : Nat} {l : List Int} (_ : -9223372036854775808 ≤ T ∧ T ≤ 9223372036854775807) (hO : Ir w ad ab ao l) (hl : l.length ≤ 17592186044416) (hI : ∀ i (h : i < l.length), I6 l[i]) :
    Calls Try.prog 4 #[.int .i64 T, .slice ad l.length cap] w fun e w' => e = .returned (.bool true) ∧ Below w.heap.size w w' := by
  by_cases hT : 1 ≤ T ∧ T ≤ 256
  · obtain ⟨h1, h2⟩ := hT
    have HO := hide hO
    have HI := hide hI
    have HN := hide (new_ok h1 h2 w)
    obtain ⟨tn, rfl⟩ : ∃ tn : Nat, T = (tn : Int) := ⟨T.toNat, by omega⟩
    have ht1 : 1 ≤ tn := by omega
    have ht2 : tn ≤ 256 := by omega
    clear hO hI h1 h2
    go_enter Try.func4, Try.ntmps4
    go_wp2_with fail
    refine HN.out.mono ?_
    rintro e w1 ⟨rfl, hta, hb1⟩
    have HT1 : Hid (Wt w tn w1.heap.size [] (w1.alloc (.cells #[.int .i64 2, .int .i64 1] 36))) := ⟨(Tn.mk hta hb1).below (below_alloc w1 _), heap_alloc_new w1 _⟩
    have hWlt : w.heap.size + 1 < w1.heap.size := hta.tb.lt
    clear hta hb1 HN
    go_wp2_with fail
    generalize w1.alloc (.cells #[.int .i64 2, .int .i64 1] 36) = W1' at *
    generalize w1.heap.size = H at *
    refine (grant_ok HT1.out.tn.ta 1 5 2 1).mono ?_
    rintro e w2 ⟨rfl, hta, hg⟩
    obtain ⟨e1, e2⟩ := w1_grant (tn : Int)
    rw [e1]
    rw [e2] at hta
    have HT2 := hide (HT1.out.turn hta hg)
    clear hta hg e1 e2 HT1
    go_wp2_with fail
    go_loopw [8] (fun s wr => ∃ (i : Nat), i ≤ l.length ∧ i ≤ 30 ∧ s = .int .i64 (i : Int) ∧ Hid (Wt w tn H (W1 tn) wr)) (fun s _ => l.length - (intOf s).toNat)
    case atStart => exact ⟨0, Nat.zero_le _, by decide, rfl, HT2⟩
    case round =>
      clear HT2
      obtain ⟨i, hi, hi30, rfl, HT⟩ := hrel
      by_cases hii : i < l.length ∧ i < 30
      · obtain ⟨hii, hi3⟩ := hii
        have hik : (i : Int) < (l.length : Int) := by omega
        have hik3 : (i : Int) < 30 := by omega
        have hat := HO.out.at_ (by omega)
        subst hat
        have q0 := (HO.out.below HT.out.tn.low).c i hii
        have hb6 := HI.out i hii
        generalize l[i] = x at *
        have hpl := pl_lt (n := x) (m := tn) (by omega)
        go_wp2_with fail
        refine (place_any (n := x) (m := tn) (by omega) (by omega) hb6).mono ?_
        rintro e w3 ⟨rfl, rfl⟩
        generalize pl x tn = p at *
        clear q0
        go_wp2_with fail
        go_loopw [9] (fun s wq => ∃ (k : Nat), k ≤ p ∧ s = .int .i64 (k : Int) ∧ Hid (Wt w tn H (W1 ((tn : Int) - ((p : Int) - (k : Int)))) wq)) (fun s _ => (intOf s).toNat)
        case atStart => exact ⟨p, Nat.le_refl _, rfl, by have e : (tn : Int) - ((p : Int) - (p : Int)) = tn := by omega
                                                         rw [e]; exact HT⟩
        case round =>
          clear HT
          obtain ⟨k, hk, rfl, HK⟩ := hrel
          by_cases hk0 : 0 < k
          · have hk1 : (0 : Int) < (k : Int) := by omega
            have hlv : (1 : Int) < (tn : Int) - ((p : Int) - (k : Int)) := by omega
            obtain ⟨t1, t2⟩ := w1_tick hlv
            go_wp2_with fail
            refine (tick_ok HK.out.tn.ta).mono ?_
            rintro e w4 ⟨v4, rfl, ho4, hta, hg⟩
            rw [t2] at ho4
            rw [t1] at hta
            obtain ⟨ad4, cap4, hv4⟩ := own_slice ho4
            subst hv4
            have HK4 := hide (HK.out.turn hta hg)
            clear ho4 hta hg HK t1 t2
            have e5 : (tn : Int) - ((p : Int) - (k : Int)) - 1 = (tn : Int) - ((p : Int) - ((k - 1 : Nat) : Int)) := by omega
            rw [e5] at HK4
            simp only [List.length_nil]
            clear hlv e5
            go_wp2_with fail
            go_roundw
            case rel => exact ⟨k - 1, by omega, by rw [show ((k - 1 : Nat) : Int) = (k : Int) - 1 by omega], HK4⟩
            case measure => simp only [intOf]; omega
          · have hk1 : ¬ (0 : Int) < (k : Int) := by omega
            obtain ⟨r1, r2⟩ := w1_renew (tn : Int) ((tn : Int) - ((p : Int) - (k : Int)))
            generalize W1 ((tn : Int) - ((p : Int) - (k : Int))) = LL at *
            go_wp2_with fail
            refine (renew_ok HK.out.tn.ta 5).mono ?_
            rintro e w4 ⟨rfl, hta, hg⟩
            rw [r2]
            rw [r1] at hta
            have HK4 := hide (HK.out.turn hta hg)
            clear hta hg HK r1 r2
            go_wp2_with fail
            go_roundw
            case rel => exact ⟨i + 1, by omega, by omega, by go_num, HK4⟩
            case measure => simp only [intOf]; omega
      · --TAIL
        obtain ⟨ha0, ha1⟩ := HT.out.ad.c
        by_cases hil : i < l.length
        · have hik : (i : Int) < (l.length : Int) := by omega
          have hik3 : ¬ (i : Int) < 30 := by omega
          clear hii hi hi30 hil
          go_wp2_with fail
          refine (grant_ok HT.out.tn.ta 2 9 2 1).mono ?_
          rintro e w3 ⟨rfl, hta, hg⟩
          obtain ⟨e1, e2⟩ := w2_grant (tn : Int)
          rw [e1]
          rw [e2] at hta
          have HT3 := hide (HT.out.turn hta hg)
          obtain ⟨hc0, hc1⟩ := HT3.out.ad.c
          clear hta hg e1 e2 HT ha0 ha1
          go_wp2_with fail
          refine (grant_ok HT3.out.tn.ta 3 7 2 1).mono ?_
          rintro e w4 ⟨rfl, hta, hg⟩
          obtain ⟨e1, e2⟩ := w3_grant (tn : Int)
          rw [e1]
          rw [e2] at hta
          have HT4 := hide (HT3.out.turn hta hg)
          clear hta hg e1 e2 HT3 hc0 hc1
          go_wp2_with fail
          go_loopw [10] (fun s wq => ∃ (k : Nat), 1 ≤ k ∧ k ≤ tn ∧ s = .int .i64 (k : Int) ∧ Hid (Wt w tn H (W3 ((tn : Int) - (k : Int) + 1)) wq)) (fun s _ => tn - (intOf s).toNat)
          case atStart => exact ⟨1, Nat.le_refl _, ht1, rfl, by rw [show (tn : Int) - ((1 : Nat) : Int) + 1 = tn by omega]; exact HT4⟩
          case round =>
            clear HT4
            obtain ⟨k, hk0, hk, rfl, HK⟩ := hrel
            by_cases hkt : k < tn
            · have hk1 : (k : Int) < (tn : Int) := by omega
              have hlv : (1 : Int) < (tn : Int) - (k : Int) + 1 := by omega
              obtain ⟨t1, t2⟩ := w3_tick hlv
              obtain ⟨f1, f2⟩ := w3_find ((tn : Int) - (k : Int) + 1)
              have HF := hide (find_ok HK.out.tn.ta 5)
              rw [f1, f2] at HF
              have e8 : (tn : Int) - (k : Int) + 1 - 1 = (tn : Int) - ((k + 1 : Nat) : Int) + 1 := by omega
              rw [e8] at t1
              have HT1' := hide t1
              have HT2' := hide t2
              clear t1 t2 f1 f2 hlv e8
              go_wp2_with fail
              refine HF.out.mono ?_
              rintro e w5 ⟨rfl, hb5⟩
              have HK5 := hide ((HK.out.below hb5).below (below_alloc w5 (.cells #[.int .i64 1, .int .i64 5, .int .i64 2, .int .i64 1, .int .i64 ((tn : Int) - (k : Int) + 1)] 54)))
              have hc5 : (w5.alloc (.cells #[.int .i64 1, .int .i64 5, .int .i64 2, .int .i64 1, .int .i64 ((tn : Int) - (k : Int) + 1)] 54)).cell? ⟨w5.heap.size, 4, none⟩ = some (.int .i64 ((tn : Int) - (k : Int) + 1)) := by simp
              have hne5 : some w5.heap.size ≠ some w.heap.size := fun e => by injection e with e; have h1 := (HK.out.below hb5).tn.ta.tb.lt; omega
              clear hb5 HK HF
              go_wp2_with fail
              generalize w5.alloc (.cells #[.int .i64 1, .int .i64 5, .int .i64 2, .int .i64 1, .int .i64 ((tn : Int) - (k : Int) + 1)] 54) = W5 at *
              refine (tick_ok HK5.out.tn.ta).mono ?_
              rintro e w6 ⟨v6, rfl, ho6, hta, hg⟩
              rw [HT2'.out] at ho6
              rw [HT1'.out] at hta
              obtain ⟨ad6, cap6, hv6⟩ := own_slice ho6
              subst hv6
              have hc6 := hg.cell hc5 hne5
              have HK6 := hide (HK5.out.turn hta hg)
              simp only [List.length_nil]
              have bq : (((tn : Int) - (k : Int) + 1) != ((tn : Int) - (k : Int) + 1)) = false := by simp
              clear ho6 hta hg HK5 hc5 hne5 HT1' HT2'
              go_wp2_with fail
              go_roundw
              case rel => exact ⟨k + 1, by omega, by omega, by go_num, HK6⟩
              case measure => simp only [intOf]; omega
            · have hk1 : ¬ (k : Int) < (tn : Int) := by omega
              have hkk : (tn : Int) - (k : Int) + 1 = 1 := by omega
              rw [hkk] at HK
              obtain ⟨t1, t2⟩ := w3_last
              clear hkk
              go_wp2_with fail
              refine (tick_ok HK.out.tn.ta).mono ?_
              rintro e w6 ⟨v6, rfl, ho6, hta, hg⟩
              rw [t2] at ho6
              rw [t1] at hta
              obtain ⟨ad6, cap6, hv6⟩ := own_slice ho6
              subst hv6
              obtain ⟨ab6, hR6, _⟩ := Rs.own ho6
              have hat6 := hR6.at_ (by decide)
              subst hat6
              have HR6 := hide hR6
              have HK6 := hide (HK.out.turn hta hg)
              simp only [List.length_cons, List.length_nil]
              clear ho6 hta hg hR6 HK t1 t2
              go_wp2_with fail
              refine (find_ok HK6.out.tn.ta 5).mono ?_
              rintro e w7 ⟨rfl, hb7⟩
              have f1 : fnd 5 [] = lz0 := rfl
              have f2 : has 5 [] = false := rfl
              rw [f1, f2]
              have HK7 := hide ((HK6.out.below hb7).below (below_alloc w7 lz0.obj))
              have HR7 := hide ((HR6.out.below hb7).below (below_alloc w7 lz0.obj))
              clear hb7 HK6 HR6 f1 f2
              obtain ⟨p0, p1, p2, p3, p4⟩ := HR7.out.eight0 (i := 0) (by decide)
              obtain ⟨r0, r1, r2, r3, r4⟩ := HR7.out.eight0 (i := 1) (by decide)
              obtain ⟨s0, s1, s2, s3, s4⟩ := HR7.out.eight0 (i := 2) (by decide)
              simp only [List.getElem_cons_zero, List.getElem_cons_succ, Nat.zero_mul, Nat.zero_add, Nat.one_mul] at p0 p1 p2 p3 p4 r0 r1 r2 r3 r4 s0 s1 s2 s3 s4
              go_wp2_with fail
              refine (tick_ok HK7.out.tn.ta).mono ?_
              rintro e w8 ⟨v8, rfl, ho8, hta, hg⟩
              rw [show tkO [] = [] from rfl] at ho8
              rw [show tkL [] = [] from rfl] at hta
              obtain ⟨ad8, cap8, hv8⟩ := own_slice ho8
              subst hv8
              have HK8 := hide (HK7.out.turn hta hg)
              simp only [List.length_nil]
              clear ho8 hta hg HK7 HR7 p0 p1 p2 p3 p4 r0 r1 r2 r3 r4 s0 s1 s2 s3 s4
              go_wp2_with fail
              refine (renew_ok HK8.out.tn.ta 5).mono ?_
              rintro e w9 ⟨rfl, hta, hg⟩
              rw [show naE 5 [] = 122 from rfl]
              rw [show rnw tn 5 [] = [] from rfl] at hta
              have HK9 := hide (HK8.out.turn hta hg)
              obtain ⟨hc0, hc1⟩ := HK9.out.ad.c
              clear hta hg HK8
              go_wp2_with fail
              refine (grant_ok HK9.out.tn.ta 1 5 2 1).mono ?_
              rintro e w10 ⟨rfl, hta, hg⟩
              obtain ⟨e1, e2⟩ := w1_grant (tn : Int)
              rw [e1]
              have HK10 := hide (HK9.out.turn hta hg)
              clear hta hg e1 e2 HK9 hc0 hc1
              go_wp2_with fail
              refine (fixed_any _).mono ?_
              rintro e w11 ⟨rfl, hb11⟩
              go_wp2_with fail
              go_ret
              exact ⟨rfl, below_of HK10.out.tn.low hb11⟩
        · have hik : ¬ (i : Int) < (l.length : Int) := by omega
          clear hii hi hi30 hil
          go_wp2_with fail
          refine (grant_ok HT.out.tn.ta 2 9 2 1).mono ?_
          rintro e w3 ⟨rfl, hta, hg⟩
          obtain ⟨e1, e2⟩ := w2_grant (tn : Int)
          rw [e1]
          rw [e2] at hta
          have HT3 := hide (HT.out.turn hta hg)
          obtain ⟨hc0, hc1⟩ := HT3.out.ad.c
          clear hta hg e1 e2 HT ha0 ha1
          go_wp2_with fail
          refine (grant_ok HT3.out.tn.ta 3 7 2 1).mono ?_
          rintro e w4 ⟨rfl, hta, hg⟩
          obtain ⟨e1, e2⟩ := w3_grant (tn : Int)
          rw [e1]
          rw [e2] at hta
          have HT4 := hide (HT3.out.turn hta hg)
          clear hta hg e1 e2 HT3 hc0 hc1
          go_wp2_with fail
          go_loopw [10] (fun s wq => ∃ (k : Nat), 1 ≤ k ∧ k ≤ tn ∧ s = .int .i64 (k : Int) ∧ Hid (Wt w tn H (W3 ((tn : Int) - (k : Int) + 1)) wq)) (fun s _ => tn - (intOf s).toNat)
          case atStart => exact ⟨1, Nat.le_refl _, ht1, rfl, by rw [show (tn : Int) - ((1 : Nat) : Int) + 1 = tn by omega]; exact HT4⟩
          case round =>
            clear HT4
            obtain ⟨k, hk0, hk, rfl, HK⟩ := hrel
            by_cases hkt : k < tn
            · have hk1 : (k : Int) < (tn : Int) := by omega
              have hlv : (1 : Int) < (tn : Int) - (k : Int) + 1 := by omega
              obtain ⟨t1, t2⟩ := w3_tick hlv
              obtain ⟨f1, f2⟩ := w3_find ((tn : Int) - (k : Int) + 1)
              have HF := hide (find_ok HK.out.tn.ta 5)
              rw [f1, f2] at HF
              have e8 : (tn : Int) - (k : Int) + 1 - 1 = (tn : Int) - ((k + 1 : Nat) : Int) + 1 := by omega
              rw [e8] at t1
              have HT1' := hide t1
              have HT2' := hide t2
              clear t1 t2 f1 f2 hlv e8
              go_wp2_with fail
              refine HF.out.mono ?_
              rintro e w5 ⟨rfl, hb5⟩
              have HK5 := hide ((HK.out.below hb5).below (below_alloc w5 (.cells #[.int .i64 1, .int .i64 5, .int .i64 2, .int .i64 1, .int .i64 ((tn : Int) - (k : Int) + 1)] 54)))
              have hc5 : (w5.alloc (.cells #[.int .i64 1, .int .i64 5, .int .i64 2, .int .i64 1, .int .i64 ((tn : Int) - (k : Int) + 1)] 54)).cell? ⟨w5.heap.size, 4, none⟩ = some (.int .i64 ((tn : Int) - (k : Int) + 1)) := by simp
              have hne5 : some w5.heap.size ≠ some w.heap.size := fun e => by injection e with e; have h1 := (HK.out.below hb5).tn.ta.tb.lt; omega
              clear hb5 HK HF
              go_wp2_with fail
              generalize w5.alloc (.cells #[.int .i64 1, .int .i64 5, .int .i64 2, .int .i64 1, .int .i64 ((tn : Int) - (k : Int) + 1)] 54) = W5 at *
              refine (tick_ok HK5.out.tn.ta).mono ?_
              rintro e w6 ⟨v6, rfl, ho6, hta, hg⟩
              rw [HT2'.out] at ho6
              rw [HT1'.out] at hta
              obtain ⟨ad6, cap6, hv6⟩ := own_slice ho6
              subst hv6
              have hc6 := hg.cell hc5 hne5
              have HK6 := hide (HK5.out.turn hta hg)
              simp only [List.length_nil]
              have bq : (((tn : Int) - (k : Int) + 1) != ((tn : Int) - (k : Int) + 1)) = false := by simp
              clear ho6 hta hg HK5 hc5 hne5 HT1' HT2'
              go_wp2_with fail
              go_roundw
              case rel => exact ⟨k + 1, by omega, by omega, by go_num, HK6⟩
              case measure => simp only [intOf]; omega
            · have hk1 : ¬ (k : Int) < (tn : Int) := by omega
              have hkk : (tn : Int) - (k : Int) + 1 = 1 := by omega
              rw [hkk] at HK
              obtain ⟨t1, t2⟩ := w3_last
              clear hkk
              go_wp2_with fail
              refine (tick_ok HK.out.tn.ta).mono ?_
              rintro e w6 ⟨v6, rfl, ho6, hta, hg⟩
              rw [t2] at ho6
              rw [t1] at hta
              obtain ⟨ad6, cap6, hv6⟩ := own_slice ho6
              subst hv6
              obtain ⟨ab6, hR6, _⟩ := Rs.own ho6
              have hat6 := hR6.at_ (by decide)
              subst hat6
              have HR6 := hide hR6
              have HK6 := hide (HK.out.turn hta hg)
              simp only [List.length_cons, List.length_nil]
              clear ho6 hta hg hR6 HK t1 t2
              go_wp2_with fail
              refine (find_ok HK6.out.tn.ta 5).mono ?_
              rintro e w7 ⟨rfl, hb7⟩
              have f1 : fnd 5 [] = lz0 := rfl
              have f2 : has 5 [] = false := rfl
              rw [f1, f2]
              have HK7 := hide ((HK6.out.below hb7).below (below_alloc w7 lz0.obj))
              have HR7 := hide ((HR6.out.below hb7).below (below_alloc w7 lz0.obj))
              clear hb7 HK6 HR6 f1 f2
              obtain ⟨p0, p1, p2, p3, p4⟩ := HR7.out.eight0 (i := 0) (by decide)
              obtain ⟨r0, r1, r2, r3, r4⟩ := HR7.out.eight0 (i := 1) (by decide)
              obtain ⟨s0, s1, s2, s3, s4⟩ := HR7.out.eight0 (i := 2) (by decide)
              simp only [List.getElem_cons_zero, List.getElem_cons_succ, Nat.zero_mul, Nat.zero_add, Nat.one_mul] at p0 p1 p2 p3 p4 r0 r1 r2 r3 r4 s0 s1 s2 s3 s4
              go_wp2_with fail
              refine (tick_ok HK7.out.tn.ta).mono ?_
              rintro e w8 ⟨v8, rfl, ho8, hta, hg⟩
              rw [show tkO [] = [] from rfl] at ho8
              rw [show tkL [] = [] from rfl] at hta
              obtain ⟨ad8, cap8, hv8⟩ := own_slice ho8
              subst hv8
              have HK8 := hide (HK7.out.turn hta hg)
              simp only [List.length_nil]
              clear ho8 hta hg HK7 HR7 p0 p1 p2 p3 p4 r0 r1 r2 r3 r4 s0 s1 s2 s3 s4
              go_wp2_with fail
              refine (renew_ok HK8.out.tn.ta 5).mono ?_
              rintro e w9 ⟨rfl, hta, hg⟩
              rw [show naE 5 [] = 122 from rfl]
              rw [show rnw tn 5 [] = [] from rfl] at hta
              have HK9 := hide (HK8.out.turn hta hg)
              obtain ⟨hc0, hc1⟩ := HK9.out.ad.c
              clear hta hg HK8
              go_wp2_with fail
              refine (grant_ok HK9.out.tn.ta 1 5 2 1).mono ?_
              rintro e w10 ⟨rfl, hta, hg⟩
              obtain ⟨e1, e2⟩ := w1_grant (tn : Int)
              rw [e1]
              have HK10 := hide (HK9.out.turn hta hg)
              clear hta hg e1 e2 HK9 hc0 hc1
              go_wp2_with fail
              refine (fixed_any _).mono ?_
              rintro e w11 ⟨rfl, hb11⟩
              go_wp2_with fail
              go_ret
              exact ⟨rfl, below_of HK10.out.tn.low hb11⟩
  · have HN := hide (new_no hT w)
    by_cases ht : T < 1
    · have b1 : decide (T < 1) = true := by simpa using ht
      clear hO hI hT ht
      go_enter Try.func4, Try.ntmps4
      go_wp2_with fail
      refine HN.out.mono ?_
      rintro e w1 ⟨rfl, rfl⟩
      clear HN
      go_wp2_with fail
      refine (fixed_any _).mono ?_
      rintro e w6 ⟨rfl, hb6⟩
      go_wp2_with fail
      go_ret
      exact ⟨rfl, hb6⟩
    · have b1 : decide (T < 1) = false := by simpa using ht
      have b2 : decide (256 < T) = true := by simp; omega
      clear hO hI hT ht
      go_enter Try.func4, Try.ntmps4
      go_wp2_with fail
      refine HN.out.mono ?_
      rintro e w1 ⟨rfl, rfl⟩
      clear HN
      go_wp2_with fail
      refine (fixed_any _).mono ?_
      rintro e w6 ⟨rfl, hb6⟩
      go_wp2_with fail
      go_ret
      exact ⟨rfl, hb6⟩
end Go.Proofs.Ytjpcghkdedldiaa
