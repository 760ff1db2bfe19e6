import Derived.Test.YthnmjjlbocofbaaQuU
namespace Go.Proofs.Ythnmjjlbocofbaa
open Go.RowKit

theorem Rs.own0 {w : World} {B g cap : Nat} {L : List Rr} (h : w.ownsRow B 42 8 (.slice (some ⟨g, 0, none⟩) L.length cap) L.length (rcs L)) : Rs w (some ⟨g, 0, none⟩) g 0 L := by
  obtain ⟨ab, h1, h2, _⟩ := Rs.own h
  rcases h2 with e | e
  · cases e
  · injection e with e; injection e with e; subst e; exact h1
/-- a queue that the law made -/
structure Qt (w0 : World) (b : Nat) (v : Value) (m : Int) (L : List Rr) (w : World) : Prop where
  q : Qm 73 w0.heap.size w b v m L
  bel : Below w0.heap.size w0 w
theorem Qt.below {w0 w w' : World} {b : Nat} {v : Value} {m : Int} {L : List Rr} (h : Qt w0 b v m L w) (hb : Below w.heap.size w w') : Qt w0 b v m L w' := ⟨h.q.below hb, h.bel.trans (hb.mono h.bel.size)⟩
theorem Qt.mv {w0 w w' : World} {b : Nat} {v v' : Value} {m : Int} {L L' : List Rr} (h : Qt w0 b v m L w) (hq : Qm 73 w0.heap.size w' b v' m L') (hm : Mv (Ft b v) (Ft b v') w w') : Qt w0 b v' m L' w' := ⟨hq, h.bel.trans (hm.below h.bel.size fun k hk => (h.q.ftlt k hk).1)⟩
theorem Qt.alloc {w0 w : World} {b : Nat} {v : Value} {m : Int} {L : List Rr} (h : Qt w0 b v m L w) (o : Obj) : Qt w0 b v m L (w.alloc o) := h.below (below_alloc w o)
/-- an address in a block -/
def Ad (w : World) (H : Nat) (n l : Int) : Prop := w.heap[H]? = some (.cells #[.int .i64 n, .int .i64 l] 37 (0, 0))
theorem Ad.lt {w : World} {H : Nat} {n l : Int} (h : Ad w H n l) : H < w.heap.size := lt_of_block h
theorem Ad.c0 {w : World} {H : Nat} {n l : Int} (h : Ad w H n l) : w.cell? ⟨H, 0, none⟩ = some (.int .i64 n) := by unfold Ad at h; simp [World.cell?, h]
theorem Ad.c1 {w : World} {H : Nat} {n l : Int} (h : Ad w H n l) : w.cell? ⟨H, 1, none⟩ = some (.int .i64 l) := by unfold Ad at h; simp [World.cell?, h]
theorem Ad.below {w w' : World} {H : Nat} {n l : Int} (h : Ad w H n l) (hb : Below w.heap.size w w') : Ad w' H n l := (hb.block _ h.lt).trans h
theorem Ad.mv {w w' : World} {H : Nat} {n l : Int} {F F' : Nat → Prop} (h : Ad w H n l) (hm : Mv F F' w w') (hf : ¬ F H) : Ad w' H n l := (hm.block _ h.lt hf).trans h

set_option maxHeartbeats 4000000 in
set_option maxRecDepth 8000 in
theorem queueEnds_walk {w : World} {x z : Int} (_ : -9223372036854775808 ≤ x ∧ x ≤ 9223372036854775807) (hz : -9223372036854775808 ≤ z ∧ z ≤ 9223372036854775807) :
    Calls Try.prog 8 #[.int .i64 x, .int .i64 z] w fun e w' => e = .returned (.bool true) ∧ Below w.heap.size w w' := by
  have HN := hide (qnew_any w x)
  have hp : pl z 8 < 8 := pl_lt (by decide)
  have HP : Hid (∀ w, Calls Try.prog 27 #[.int .i64 z, .int .i64 8] w fun e w' => e = .returned (.int .i64 (pl z 8 : Int)) ∧ w' = w) := hide fun w => place_any (m := 8) (by decide) (by decide) hz
  generalize pl z 8 = p at *
  clear hz
  go_enter Try.func8, Try.ntmps8
  go_wp2_with fail
  refine HN.out.mono ?_
  rintro e w1 (⟨h, rfl, hB1⟩ | ⟨b, v, hk, rfl, hq, hB1⟩)
  · have HB1 := hide hB1
    clear HN h hB1
    go_wp2_with fail
    refine (fixed_any _).mono ?_
    rintro e w2 ⟨rfl, hB2⟩
    go_wp2_with fail
    go_ret
    exact ⟨rfl, HB1.out.trans (hB2.mono HB1.out.size)⟩
  have HQ : Hid (Qt w b v x [] w1) := hide ⟨hq, hB1⟩
  have HE : Hid (En x [] 0) := hide (En.nil hk)
  have m1 := hk.m1
  have m8 := hk.m8
  clear HN hk hq hB1
  go_wp2_with fail
  go_loopw [7] (fun s wr => ∃ (i : Nat) (v : Value) (L : List Rr), i ≤ p + 1 ∧ s = .int .i64 (i : Int) ∧ L.length = i ∧ Hid (En x L 0) ∧ Hid (Qt w b v x L wr)) (fun s _ => p + 1 - (intOf s).toNat)
  case atStart => exact ⟨0, v, [], Nat.zero_le _, rfl, rfl, HE, HQ⟩
  case round =>
    obtain ⟨i, v, L, hi, rfl, hLi, HE, HQ⟩ := hrel
    go_wp2_with fail
    refine (HP.out _).mono ?_
    rintro e w2 ⟨rfl, rfl⟩
    by_cases hip : i < p + 1
    · have hii : (i : Int) < 1 + (p : Int) := by omega
      go_wp2_with fail
      refine (submit_yes HQ.out.q (by omega)).mono ?_
      rintro e w3 ⟨rfl, v3, hq3, hm3⟩
      have HQ3 := hide (HQ.out.mv hq3 hm3)
      have HE3 := hide (HE.out.push (by omega))
      clear hq3 hm3 HQ HE
      have hL3 : (L ++ [nrow ((L.length : Int) + 1)]).length = i + 1 := by simp [hLi]
      generalize L ++ [nrow ((L.length : Int) + 1)] = L3 at *
      clear hLi
      go_wp2_with fail
      go_roundw
      case rel => exact ⟨i + 1, v3, L3, by omega, by go_num, hL3, HE3, HQ3⟩
      case measure => simp only [intOf]; omega
    · have hii : ¬ (i : Int) < 1 + (p : Int) := by omega
      have hA : Ad (w2.alloc (.cells #[.int .i64 3, .int .i64 2] 37)) w2.heap.size 3 2 := heap_alloc_new w2 _
      have HA := hide hA
      have hnF : ¬ Ft b v w2.heap.size := fun hf => absurd (HQ.out.q.ftlt _ hf).2 (by omega)
      have HQ2 := hide (HQ.out.alloc (.cells #[.int .i64 3, .int .i64 2] 37))
      clear HQ hA HP
      go_wp2_with fail
      clear hi hip hii hp hLi
      generalize w2.alloc (.cells #[.int .i64 3, .int .i64 2] 37) = W2 at *
      refine (qhead_any HQ2.out.q HE.out.ok.len).mono ?_
      rintro e w3 ⟨rfl, hB3⟩
      have HQ3 := hide (HQ2.out.below hB3)
      have HA3 := hide (HA.out.below hB3)
      obtain ⟨H, hH⟩ : ∃ H, w2.heap.size = H := ⟨_, rfl⟩
      rw [hH] at HA3 hnF ⊢
      clear HQ2 HA hB3 hH
      go_wp2_with fail
      go_loopw [8, 10] (fun g s wr => ∃ (L : List Rr) (n : Int), g = .int .i64 n ∧ s = .int .i64 (hd L) ∧ n ≤ 128 ∧ 0 ≤ n ∧ Hid (En x L n) ∧ Hid (Qt w b v x L wr ∧ Ad wr H 3 2)) (fun g _ _ => (128 - intOf g).toNat)
      case atStart => exact ⟨L, 0, rfl, rfl, by decide, by decide, HE, hide ⟨HQ3.out, HA3.out⟩⟩
      case round =>
        clear HE HQ3 HA3
        obtain ⟨L, n, rfl, rfl, n128, n0, HE, HQ⟩ := hrel
        by_cases hpos : 0 < hd L
        · obtain ⟨i, hi, e1, e2, e3, e4, e5, e6, e7, e8, e9, e10, e11, e12⟩ := HE.out.step hpos
          have hl := HE.out.ok.len
          have hle := e10.le
          have hat := HE.out.ok.att i hi
          have hRow := qrow_any HQ.out.1.q hl ((i : Int) + 1)
          rw [e11, show rowB L ((i : Int) + 1) = true from decide_eq_true (by omega)] at hRow
          have HRow := hide hRow
          have HOk := hide HE.out.ok
          have HE2 := hide e2
          have HE3 := hide e3
          have HE4 := hide e4
          have HE5 := hide e5
          have HE6 := hide e6
          have HE7 := hide e7
          have HE8 := hide e8
          have HE9 := hide e9
          have HE10 := hide e10
          have HE12 := hide e12
          have HL1 : Hid ((L.set i (grt L[i] (n + 2) 3 2)).length ≤ 8) := hide (by rw [List.length_set]; exact hl)
          have HL2 : Hid ((L.set i (xp x (grt L[i] (n + 2) 3 2))).length ≤ 8) := hide (by rw [List.length_set]; exact hl)
          have HB2 : Hid (rowB (L.set i (xp x (grt L[i] (n + 2) 3 2))) ((i : Int) + 1) = true) := hide (decide_eq_true (by rw [List.length_set]; omega))
          rw [e1]
          clear e1 e2 e3 e4 e5 e6 e7 e8 e9 e10 e11 e12 hRow hpos HE
          generalize hr : L[i] = r at *
          clear hr
          have hiI : 0 < (i : Int) + 1 := by omega
          have hi8 : (i : Int) + 1 ≤ 8 := by omega
          have h200 : ¬ 200 < n + 2 := by omega
          go_wp2_with fail
          refine HRow.out.mono ?_
          rintro e w4 ⟨rfl, hB4⟩
          have HQ4 := hide ((HQ.out.1.below hB4).alloc r.obj)
          have HA4 := hide ((HQ.out.2.below hB4).below (below_alloc w4 r.obj))
          have HX4 : Hid (Bx (w4.alloc r.obj) w4.heap.size r) := hide (heap_alloc_new w4 _)
          have hnX : ¬ Ft b v w4.heap.size := fun hf => absurd ((HQ.out.1.below hB4).q.ftlt _ hf).2 (by omega)
          have a0 := HA4.out.c0
          have a1 := HA4.out.c1
          clear hB4 HRow HQ
          go_wp2_with fail
          generalize w4.alloc r.obj = W4 at *
          refine (grant_any HQ4.out.q HOk.out ((i : Int) + 1) (n + 2) 3 2).mono ?_
          rintro e w5 ⟨rfl, hq5, hm5⟩
          rw [HE2.out]
          rw [HE3.out] at hq5
          have HQ5 := hide (HQ4.out.mv hq5 hm5)
          have HA5 := hide (HA4.out.mv hm5 hnF)
          have HX5 : Hid (Bx w5 w4.heap.size r) := hide (HX4.out.keep (hm5.block _ HX4.out.lt hnX))
          clear hq5 hm5 HQ4 HA4 HX4 a0 a1
          have a0 := HA5.out.c0
          have a1 := HA5.out.c1
          go_wp2_with fail
          refine (grant_any HQ5.out.q HE4.out ((i : Int) + 1) (n + 2 + 1) 3 2).mono ?_
          rintro e w6 ⟨rfl, hq6, hm6⟩
          rw [HE5.out]
          rw [HE6.out] at hq6
          have HQ6 := hide (HQ5.out.mv hq6 hm6)
          have HA6 := hide (HA5.out.mv hm6 hnF)
          have HX6 : Hid (Bx w6 w4.heap.size r) := hide (HX5.out.keep (hm6.block _ HX5.out.lt hnX))
          clear hq6 hm6 HQ5 HA5 HX5 a0 a1
          go_wp2_with fail
          refine (expire_any HQ6.out.q HE4.out (n + 2)).mono ?_
          rintro e w7 ⟨rfl, hq7, hm7⟩
          rw [HE7.out, HE8.out]
          rw [HE9.out] at hq7
          have HQ7 := hide (HQ6.out.mv hq7 hm7)
          have HA7 := hide (HA6.out.mv hm7 hnF)
          have HX7 : Hid (Bx w7 w4.heap.size r) := hide (HX6.out.keep (hm7.block _ HX6.out.lt hnX))
          clear hq7 hm7 HQ6 HA6 HX6
          go_wp2_with fail
          refine (qrow_any HQ7.out.q HL2.out ((i : Int) + 1)).mono ?_
          rintro e w8 ⟨rfl, hB8⟩
          rw [HE12.out, HB2.out]
          have HQ8 := hide (HQ7.out.below hB8)
          have HA8 := hide (HA7.out.below hB8)
          have hx8 : Bx w8 w4.heap.size r := HX7.out.keep (hB8.block _ HX7.out.lt)
          have hxl := hx8.lt
          obtain ⟨d0, d1, d2, _⟩ := hx8.cells
          clear hB8 HQ7 HA7 HX7 hx8
          by_cases hm : r.att + 1 = x
          · have ex : xp x (grt r (n + 2) 3 2) = ⟨r.job, 4, r.att + 1, n + 2, 0, 0, r.code, r.bits⟩ := by show (⟨r.job, if r.att + 1 = x then 4 else 1, r.att + 1, n + 2, 0, 0, r.code, r.bits⟩ : Rr) = _; rw [if_pos hm]
            rw [ex] at HE10 HQ8 HL2 ⊢
            have bm : (r.att + 1 == x) = true := by simpa using hm
            have HQ9 := hide (HQ8.out.alloc (.cells #[.int .i64 r.job, .int .i64 4, .int .i64 (r.att + 1), .int .i64 (n + 2), .int .i64 0, .int .i64 0, .int .i64 r.code, .int .u64 r.bits] 42))
            have HA9 := hide (HA8.out.below (below_alloc w8 (.cells #[.int .i64 r.job, .int .i64 4, .int .i64 (r.att + 1), .int .i64 (n + 2), .int .i64 0, .int .i64 0, .int .i64 r.code, .int .u64 r.bits] 42)))
            generalize L.set i ⟨r.job, 4, r.att + 1, n + 2, 0, 0, r.code, r.bits⟩ = L2 at *
            clear hm ex HQ8 HA8 HE2 HE3 HE4 HE5 HE6 HE7 HE8 HE9 HE12 HB2 HL1 HOk
            go_wp2_with fail
            generalize w8.alloc (.cells #[.int .i64 r.job, .int .i64 4, .int .i64 (r.att + 1), .int .i64 (n + 2), .int .i64 0, .int .i64 0, .int .i64 r.code, .int .u64 r.bits] 42) = W9 at *
            refine (qhead_any HQ9.out.q HL2.out).mono ?_
            rintro e w10 ⟨rfl, hB10⟩
            have HQ10 := hide (HQ9.out.below hB10)
            have HA10 := hide (HA9.out.below hB10)
            clear hB10 HQ9 HA9
            go_wp2_with fail
            go_roundw
            case rel => exact ⟨L2, n + 2, rfl, rfl, hle, by omega, HE10, hide ⟨HQ10.out, HA10.out⟩⟩
            case measure => simp only [intOf]; omega
          · have ex : xp x (grt r (n + 2) 3 2) = ⟨r.job, 1, r.att + 1, n + 2, 0, 0, r.code, r.bits⟩ := by show (⟨r.job, if r.att + 1 = x then 4 else 1, r.att + 1, n + 2, 0, 0, r.code, r.bits⟩ : Rr) = _; rw [if_neg hm]
            rw [ex] at HE10 HQ8 HL2 ⊢
            have bm : (r.att + 1 == x) = false := by simpa using hm
            have HQ9 := hide (HQ8.out.alloc (.cells #[.int .i64 r.job, .int .i64 1, .int .i64 (r.att + 1), .int .i64 (n + 2), .int .i64 0, .int .i64 0, .int .i64 r.code, .int .u64 r.bits] 42))
            have HA9 := hide (HA8.out.below (below_alloc w8 (.cells #[.int .i64 r.job, .int .i64 1, .int .i64 (r.att + 1), .int .i64 (n + 2), .int .i64 0, .int .i64 0, .int .i64 r.code, .int .u64 r.bits] 42)))
            generalize L.set i ⟨r.job, 1, r.att + 1, n + 2, 0, 0, r.code, r.bits⟩ = L2 at *
            clear hm ex HQ8 HA8 HE2 HE3 HE4 HE5 HE6 HE7 HE8 HE9 HE12 HB2 HL1 HOk
            go_wp2_with fail
            generalize w8.alloc (.cells #[.int .i64 r.job, .int .i64 1, .int .i64 (r.att + 1), .int .i64 (n + 2), .int .i64 0, .int .i64 0, .int .i64 r.code, .int .u64 r.bits] 42) = W9 at *
            refine (qhead_any HQ9.out.q HL2.out).mono ?_
            rintro e w10 ⟨rfl, hB10⟩
            have HQ10 := hide (HQ9.out.below hB10)
            have HA10 := hide (HA9.out.below hB10)
            clear hB10 HQ9 HA9
            go_wp2_with fail
            go_roundw
            case rel => exact ⟨L2, n + 2, rfl, rfl, hle, by omega, HE10, hide ⟨HQ10.out, HA10.out⟩⟩
            case measure => simp only [intOf]; omega
        · obtain ⟨h4, hg⟩ := HE.out.fin hpos
          have H4 := hide h4
          have HG := hide hg
          have hl := HE.out.ok.len
          clear h4 hg
          go_wp2_with fail
          refine (qrows_any HQ.out.1.q hl).mono ?_
          rintro e w4 ⟨rfl, ho4, hB4⟩
          have hR4 := Rs.own0 ho4
          have HR4 := hide hR4
          have HQ4 := hide (HQ.out.1.below hB4)
          have HA4 := hide (HQ.out.2.below hB4)
          have hlo : ∀ k, Ft b v k → k < wr.heap.size := fun k hk => (HQ.out.1.q.ftlt k hk).2
          obtain ⟨G, hG⟩ : ∃ G, wr.heap.size = G := ⟨_, rfl⟩
          rw [hG] at HR4 hlo ⊢
          clear ho4 hB4 HQ hR4 hpos hG
          go_wp2_with fail
          go_loopw [18] (fun s wq => ∃ (i : Nat), i ≤ L.length ∧ s = .int .i64 (i : Int) ∧ Hid (Qt w b v x L wq ∧ Ad wq H 3 2 ∧ Rs wq (some ⟨G, 0, none⟩) G 0 L)) (fun s _ => L.length - (intOf s).toNat)
          case atStart => exact ⟨0, Nat.zero_le _, rfl, hide ⟨HQ4.out, HA4.out, HR4.out⟩⟩
          case round =>
            clear HR4 HQ4 HA4
            obtain ⟨i, hi, rfl, HK⟩ := hrel
            by_cases hii : i < L.length
            · have hik : (i : Int) < (L.length : Int) := by omega
              obtain ⟨f1, f2⟩ := H4.out i hii
              obtain ⟨k0, k1, k2, _⟩ := HK.out.2.2.eight0 hii
              rw [f1] at k1
              rw [f2] at k2
              have a0 := HK.out.2.1.c0
              have a1 := HK.out.2.1.c1
              have hE : grE L ((i : Int) + 1) 999 3 2 = 112 := by
                unfold grE
                rw [if_neg (by omega), if_pos (by rw [rowR_at hii, f1]; decide)]
              have hL : grL L ((i : Int) + 1) 999 3 2 = L := by unfold grL; rw [hE]; rfl
              have HGE := hide hE
              have HGL := hide hL
              clear f1 f2 hE hL
              have bx : (x != x) = false := by simp
              go_wp2_with fail
              refine (grant_any HK.out.1.q HE.out.ok ((i : Int) + 1) 999 3 2).mono ?_
              rintro e w6 ⟨rfl, hq6, hm6⟩
              rw [HGE.out]
              rw [HGL.out] at hq6
              have HK6 : Hid (Qt w b v x L w6 ∧ Ad w6 H 3 2 ∧ Rs w6 (some ⟨G, 0, none⟩) G 0 L) := hide ⟨HK.out.1.mv hq6 hm6, HK.out.2.1.mv hm6 hnF, HK.out.2.2.keep fun h0 => hm6.block _ (HK.out.2.2.lt h0) fun hf => absurd (hlo _ hf) (by omega)⟩
              clear hq6 hm6 HK k0 k1 k2 a0 a1
              go_wp2_with fail
              go_roundw
              case rel => exact ⟨i + 1, by omega, by go_num, HK6⟩
              case measure => simp only [intOf]; omega
            · have hik : ¬ (i : Int) < (L.length : Int) := by omega
              have HB := hide HK.out.1.bel
              have hg := HG.out
              have hmul : 2 * x * (L.length : Int) = n := by rw [hg, Int.mul_assoc]
              have bn : (n == n) = true := by simp
              clear HK hg HG
              go_wp2_with fail
              refine (fixed_any _).mono ?_
              rintro e w6 ⟨rfl, hB6⟩
              go_wp2_with fail
              go_ret
              exact ⟨rfl, HB.out.trans (hB6.mono HB.out.size)⟩
end Go.Proofs.Ythnmjjlbocofbaa
