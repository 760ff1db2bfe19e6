import Derived.Test.YthnmjjlbocofbaaQuV
import Derived.Deep.DeepCutAuto
import Derived.Deep.CutBlock
import Derived.Deep.LoopGhost
namespace Go.Proofs.Ythnmjjlbocofbaa
open Go.RowKit

/-- a call of QueueStays' script: what is none of three settles -/
def kd (o : Rr) : Rr := if o.st = 0 ∨ o.st = 2 ∨ o.st = 3 then o else ⟨o.job, 4, o.att, o.bdg, o.node, o.life, o.code, o.bits⟩
/-- rows only grow, and what is settled stays -/
theorem Ok.later {m : Int} {L : List Rr} (h : Ok m L) (o : Rr) : L.length ≤ (dsL m L o).length ∧ ∀ k (hk : k < L.length), ∃ hk' : k < (dsL m L o).length, (((L[k]).st = 3 ∨ (L[k]).st = 4) → (dsL m L o)[k] = L[k]) ∧ (L[k]).att ≤ ((dsL m L o)[k]).att ∧ (L[k]).bdg ≤ ((dsL m L o)[k]).bdg := by
  rcases h.step o with ⟨_, b⟩ | ⟨_, r, b⟩ | ⟨_, i, r, hi, b, c, d, e, f⟩
  · rw [b]
    exact ⟨Nat.le_refl _, fun k hk => ⟨hk, fun _ => rfl, Int.le_refl _, Int.le_refl _⟩⟩
  · rw [b]
    refine ⟨by simp, fun k hk => ⟨by simp; omega, ?_⟩⟩
    rw [List.getElem_append_left hk]
    exact ⟨fun _ => rfl, Int.le_refl _, Int.le_refl _⟩
  · rw [b]
    refine ⟨by simp, fun k hk => ⟨by simpa using hk, ?_⟩⟩
    by_cases hik : i = k
    · subst hik
      rw [List.getElem_set_self]
      exact ⟨fun g => by omega, e, d⟩
    · rw [List.getElem_set_ne hik]
      exact ⟨fun _ => rfl, Int.le_refl _, Int.le_refl _⟩
theorem gb_at (L : List Rr) : gb L = 0 ∨ ∃ i, ∃ hi : i < L.length, gb L = (L[i]).bdg := by
  have : ∀ (l : List Rr) (a : Int), l.foldl gbF a = a ∨ ∃ r ∈ l, l.foldl gbF a = r.bdg := by
    intro l
    induction l with
    | nil => intro a; exact .inl rfl
    | cons x l ih =>
      intro a
      rw [List.foldl_cons]
      rcases ih (gbF a x) with h1 | ⟨r, h1, h2⟩
      · by_cases h3 : a < x.bdg
        · right; exact ⟨x, by simp, by rw [h1]; unfold gbF; rw [if_pos h3]⟩
        · left; rw [h1]; unfold gbF; rw [if_neg h3]
      · right; exact ⟨r, by simp [h1], h2⟩
  rcases this L 0 with h1 | ⟨r, h1, h2⟩
  · exact .inl h1
  · obtain ⟨i, hi, rfl⟩ := List.getElem_of_mem h1
    exact .inr ⟨i, hi, h2⟩
theorem Ok.gb_mono {m : Int} {L : List Rr} (h : Ok m L) (o : Rr) : gb L ≤ gb (dsL m L o) := by
  rcases gb_at L with h1 | ⟨i, hi, h1⟩
  · rw [h1]; exact (gb_ge _).1
  · obtain ⟨hk, _, _, h3⟩ := (h.later o).2 i hi
    have := (gb_ge (dsL m L o)).2 i hk
    omega
theorem grant_gb {L : List Rr} {j g n l : Int} (h : grE L j g n l = 0) : gb L < g ∧ g ≤ gb (grL L j g n l) := by
  obtain ⟨hj, h1, hg, _, _⟩ := grE_0 h
  obtain ⟨hi, e⟩ := rowR_in hj
  refine ⟨hg, ?_⟩
  have hL : grL L j g n l = L.set (j - 1).toNat (grt (rowR L j) g n l) := by unfold grL; rw [h]; rfl
  rw [hL]
  have := (gb_ge (L.set (j - 1).toNat (grt (rowR L j) g n l))).2 (j - 1).toNat (by rw [List.length_set]; exact hi)
  rw [List.getElem_set_self] at this
  exact this
set_option maxHeartbeats 1000000 in
theorem settled_any (w : World) (r : Rr) : Calls Try.prog 21 #[r.val] w fun e w' => e = .returned (.bool (decide (r.st = 3 ∨ r.st = 4))) ∧ Below w.heap.size w w' := by
  by_cases h3 : r.st = 3
  · have HE : Hid (decide (r.st = 3 ∨ r.st = 4) = true) := hide (decide_eq_true (.inl h3))
    have b3 : (r.st == 3) = true := by simpa using h3
    clear h3
    go_enter Try.func21, Try.ntmps21
    go_wp2
    go_ret
    exact ⟨by rw [HE.out]; rfl, below_alloc _ _⟩
  · have b3 : (r.st == 3) = false := by simpa using h3
    by_cases h4 : r.st = 4
    · have HE : Hid (decide (r.st = 3 ∨ r.st = 4) = true) := hide (decide_eq_true (.inr h4))
      have b4 : (r.st == 4) = true := by simpa using h4
      clear h3 h4
      go_enter Try.func21, Try.ntmps21
      go_wp2
      go_ret
      exact ⟨by rw [HE.out]; rfl, below_alloc _ _⟩
    · have HE : Hid (decide (r.st = 3 ∨ r.st = 4) = false) := hide (decide_eq_false (by rintro (e | e); exact h3 e; exact h4 e))
      have b4 : (r.st == 4) = false := by simpa using h4
      clear h3 h4
      go_enter Try.func21, Try.ntmps21
      go_wp2
      go_ret
      exact ⟨by rw [HE.out]; rfl, below_alloc _ _⟩
set_option maxHeartbeats 8000000 in
set_option maxRecDepth 8000 in
theorem queueStays_walk {w : World} {x : Int} (_ : -9223372036854775808 ≤ x ∧ x ≤ 9223372036854775807) {ad : Option Addr} {ab ao cap : Nat} {Q : List Rr} (hQ : Rs w ad ab ao Q) (hQl : Q.length ≤ 2199023255488) (_ : ∀ i (h : i < Q.length), -9223372036854775808 ≤ (Q[i]).job ∧ (Q[i]).job ≤ 9223372036854775807) :
    Calls Try.prog 5 #[.int .i64 x, .slice ad Q.length cap] w fun e w' => e = .returned (.bool true) ∧ Below w.heap.size w w' := by
  have HN := hide (qnew_any w x)
  have HS := hide hQ
  have hg := guardR
  clear hQ
  go_enter Try.func5, Try.ntmps5
  go_wp2_with fail
  refine HN.out.mono ?_
  rintro e w1 (⟨h, rfl, hB1⟩ | ⟨b, v, hk, rfl, hq, hB1⟩)
  · have HB1 := hide hB1
    clear HN hB1
    by_cases hx : x < 1
    · clear h
      go_wp2_with fail
      refine (fixed_any _).mono ?_
      rintro e w2 ⟨rfl, hB2⟩
      go_wp2_with fail
      go_ret
      exact ⟨rfl, HB1.out.trans (hB2.mono HB1.out.size)⟩
    · have hx8 : 8 < x := by omega
      clear h
      go_wp2_with fail
      refine (fixed_any _).mono ?_
      rintro e w2 ⟨rfl, hB2⟩
      go_wp2_with fail
      go_ret
      exact ⟨rfl, HB1.out.trans (hB2.mono HB1.out.size)⟩
  have HQ : Hid (Qt w b v x [] (w1.alloc (.cells #[] 42))) := hide (Qt.alloc ⟨hq, hB1⟩ _)
  have HK := hide hk
  have hnG0 : ¬ Ft b v w1.heap.size := fun hf => absurd (hq.ftlt _ hf).2 (by omega)
  clear HN hk hq hB1
  go_wp2_with fail
  go_loopw [7, 8, 9] (fun t l s wr => ∃ (i G : Nat) (v : Value) (L : List Rr) (n : Int), i ≤ Q.length ∧ t = .slice (some ⟨G, 0, none⟩) L.length L.length ∧ l = .int .i64 n ∧ s = .int .i64 (i : Int) ∧ n ≤ gb L ∧ ¬ Ft b v G ∧ Hid (Ok x L) ∧ Hid (Qt w b v x L wr ∧ Rs wr (some ⟨G, 0, none⟩) G 0 L)) (fun _ _ s _ => Q.length - (intOf s).toNat)
  case atStart => exact ⟨0, _, v, [], 0, Nat.zero_le _, rfl, rfl, rfl, Int.le_refl _, hnG0, HK, hide ⟨HQ.out, fun h => absurd h (by simp), fun i hi => absurd hi (by simp)⟩⟩
  case round =>
    clear HK HQ hnG0
    obtain ⟨i, G, v, L, n, hi, rfl, rfl, rfl, hn, hvG, HK, HQ⟩ := hrel
    by_cases hiq : i < Q.length
    · have hii : (i : Int) < (Q.length : Int) := by omega
      have hat := HS.out.at_ (by omega)
      subst hat
      have hS := HS.out.below HQ.out.1.bel
      obtain ⟨c0, c1, c2, c3, c4, c5, c6, c7⟩ := hS.eight hiq
      have hlt := hS.lt (by omega)
      clear hS
      generalize Q[i] = o at *
      have HQo : Hid (Qt w b v x L (wr.alloc o.oobj) ∧ Rs (wr.alloc o.oobj) (some ⟨G, 0, none⟩) G 0 L) := hide ⟨HQ.out.1.alloc _, HQ.out.2.below (below_alloc _ _)⟩
      have hoo : (wr.alloc o.oobj).heap[wr.heap.size]? = some o.oobj := heap_alloc_new wr _
      have HOo := hide hoo
      have hnO : ¬ Ft b v wr.heap.size := fun hf => absurd (HQ.out.1.q.ftlt _ hf).2 (by omega)
      clear hoo
      obtain ⟨lt1, lt2⟩ := HK.out.later (kd o)
      have HLt := hide lt2
      have HKN := hide (HK.out.does (kd o))
      have HGM := hide (HK.out.gb_mono (kd o))
      have hl8 := HKN.out.len
      clear lt2
      go_upto_block 2 with fail
      clear c0 c1 c2 c3 c4 c5 c6 c7
      go_cut [8, 11] (fun u8 _ wc => ∃ (vv : Value) (N : List Rr) (nn : Int), u8 = .int .i64 nn ∧ nn ≤ gb N ∧ L.length ≤ N.length ∧ N.length ≤ 8 ∧ Hid (∀ k (hk : k < L.length), ∃ hk2 : k < N.length, (((L[k]).st = 3 ∨ (L[k]).st = 4) → N[k] = L[k]) ∧ (L[k]).att ≤ (N[k]).att ∧ (L[k]).bdg ≤ (N[k]).bdg) ∧ Hid (Ok x N) ∧ Hid (Qt w b vv x N wc ∧ Rs wc (some ⟨G, 0, none⟩) G 0 L))
      case first =>
        skip
        by_cases h0 : o.st = 0
        · have hN : dsL x L (kd o) = sbL L := by unfold kd; rw [if_pos (.inl h0)]; unfold dsL; rw [if_pos h0]; rfl
          rw [hN] at HLt HKN HGM hl8 lt1
          clear hN
          have b0 : (o.st == 0) = true := by simpa using h0
          clear h0
          go_wp2_with fail
          refine (submit_any HQo.out.1.q).mono ?_
          rintro e w3 ⟨rfl, v3, hq3, hm3⟩
          have HQ3 : Hid (Qt w b v3 x (sbL L) w3 ∧ Rs w3 (some ⟨G, 0, none⟩) G 0 L) := hide ⟨HQo.out.1.mv hq3 hm3, HQo.out.2.keep fun h0 => hm3.block _ (HQo.out.2.lt h0) hvG⟩
          clear hq3 hm3 HQo HQ HOo
          go_wp2_with fail
          go_meet
          case rel => exact ⟨v3, _, n, rfl, Int.le_trans hn HGM.out, lt1, hl8, HLt, HKN, HQ3⟩
        have n0 : (o.st == 0) = false := by simpa using h0
        by_cases h2 : o.st = 2
        · have hN : dsL x L (kd o) = grL L o.att o.bdg o.node o.life := by unfold kd; rw [if_pos (.inr (.inl h2))]; unfold dsL; rw [if_neg h0, if_pos h2]
          rw [hN] at HLt HKN HGM hl8 lt1
          clear hN
          have b2 : (o.st == 2) = true := by simpa using h2
          clear h0 h2
          go_wp2_with fail
          refine (grant_any HQo.out.1.q HK.out o.att o.bdg o.node o.life).mono ?_
          rintro e w3 ⟨rfl, hq3, hm3⟩
          have HQ3 : Hid (Qt w b v x (grL L o.att o.bdg o.node o.life) w3 ∧ Rs w3 (some ⟨G, 0, none⟩) G 0 L) := hide ⟨HQo.out.1.mv hq3 hm3, HQo.out.2.keep fun h0 => hm3.block _ (HQo.out.2.lt h0) hvG⟩
          have ho3 : w3.heap[wr.heap.size]? = some o.oobj := (hm3.block _ (lt_of_block HOo.out) hnO).trans HOo.out
          have p3 : w3.cell? ⟨wr.heap.size, 3, none⟩ = some (.int .i64 o.bdg) := by simp [World.cell?, ho3]
          have HGG := hide (fun h => grant_gb (L := L) (j := o.att) (g := o.bdg) (n := o.node) (l := o.life) h)
          generalize grE L o.att o.bdg o.node o.life = E at *
          clear hq3 hm3 HQo HQ HOo ho3
          by_cases hE : E = 0
          · obtain ⟨g1, g2⟩ := HGG.out hE
            have bE : (E == 0) = true := by simpa using hE
            have hnl : ¬ o.bdg ≤ n := by omega
            clear hE HGG
            go_wp2_with fail
            go_meet
            case rel => exact ⟨v, _, o.bdg, rfl, g2, lt1, hl8, HLt, HKN, HQ3⟩
          · have bE : (E == 0) = false := by simpa using hE
            clear hE HGG
            go_wp2_with fail
            go_meet
            case rel => exact ⟨v, _, n, rfl, Int.le_trans hn HGM.out, lt1, hl8, HLt, HKN, HQ3⟩
        have n2 : (o.st == 2) = false := by simpa using h2
        by_cases h3 : o.st = 3
        · have hN : dsL x L (kd o) = exL x L o.bdg := by unfold kd; rw [if_pos (.inr (.inr h3))]; unfold dsL; rw [if_neg h0, if_neg h2, if_pos h3]
          rw [hN] at HLt HKN HGM hl8 lt1
          clear hN
          have b3 : (o.st == 3) = true := by simpa using h3
          clear h0 h2 h3
          go_wp2_with fail
          refine (expire_any HQo.out.1.q HK.out o.bdg).mono ?_
          rintro e w3 ⟨rfl, hq3, hm3⟩
          have HQ3 : Hid (Qt w b v x (exL x L o.bdg) w3 ∧ Rs w3 (some ⟨G, 0, none⟩) G 0 L) := hide ⟨HQo.out.1.mv hq3 hm3, HQo.out.2.keep fun h0 => hm3.block _ (HQo.out.2.lt h0) hvG⟩
          clear hq3 hm3 HQo HQ HOo
          go_wp2_with fail
          go_meet
          case rel => exact ⟨v, _, n, rfl, Int.le_trans hn HGM.out, lt1, hl8, HLt, HKN, HQ3⟩
        have n3 : (o.st == 3) = false := by simpa using h3
        have hN : dsL x L (kd o) = seL L o.bdg o.code o.bits := by unfold kd; rw [if_neg (by rintro (e | e | e); exact h0 e; exact h2 e; exact h3 e)]; rfl
        rw [hN] at HLt HKN HGM hl8 lt1
        clear hN h0 h2 h3
        go_wp2_with fail
        refine (settle_any HQo.out.1.q HK.out o.bdg o.code o.bits).mono ?_
        rintro e w3 ⟨rfl, hq3, hm3⟩
        have HQ3 : Hid (Qt w b v x (seL L o.bdg o.code o.bits) w3 ∧ Rs w3 (some ⟨G, 0, none⟩) G 0 L) := hide ⟨HQo.out.1.mv hq3 hm3, HQo.out.2.keep fun h0 => hm3.block _ (HQo.out.2.lt h0) hvG⟩
        clear hq3 hm3 HQo HQ HOo
        go_wp2_with fail
        go_meet
        case rel => exact ⟨v, _, n, rfl, Int.le_trans hn HGM.out, lt1, hl8, HLt, HKN, HQ3⟩
      case rest =>
        clear HLt HKN HGM hl8 lt1 HQo HOo hnO HQ HK hn hvG
        obtain ⟨v3, N, n3, rfl, hn, lt1, hl8, HLt, HKN, HQ3⟩ := hcut
        go_wp2_with fail
        refine (qrows_any HQ3.out.1.q hl8).mono ?_
        rintro e w4 ⟨rfl, ho4, hB4⟩
        have HX4 : Hid (Qt w b v3 x N w4 ∧ Rs w4 (some ⟨G, 0, none⟩) G 0 L) := hide ⟨HQ3.out.1.below hB4, HQ3.out.2.below hB4⟩
        have HT4 := hide (Rs.own0 ho4)
        obtain ⟨G2, hG2⟩ : ∃ G, wc.heap.size = G := ⟨_, rfl⟩
        have hvG2 : ¬ Ft b v3 G2 := fun hf => absurd (HQ3.out.1.q.ftlt _ hf).2 (by omega)
        rw [hG2] at HT4 ⊢
        clear ho4 hB4 hG2 HQ3
        have lI : decide (N.length < L.length) = false := by simp; omega
        go_wp2_with fail
        go_loopw [13] (fun s wq => ∃ (k : Nat), k ≤ L.length ∧ s = .int .i64 (k : Int) ∧ Hid (Qt w b v3 x N wq ∧ Rs wq (some ⟨G, 0, none⟩) G 0 L ∧ Rs wq (some ⟨G2, 0, none⟩) G2 0 N)) (fun s _ => L.length - (intOf s).toNat)
        case atStart => exact ⟨0, Nat.zero_le _, rfl, hide ⟨HX4.out.1, HX4.out.2, HT4.out⟩⟩
        case round =>
          clear HX4 HT4
          obtain ⟨k, hk, rfl, HX⟩ := hrel
          by_cases hkk : k < L.length
          · have hkI : (k : Int) < (L.length : Int) := by omega
            obtain ⟨hkn, p1, p2, p3⟩ := HLt.out k hkk
            have hkJ : (k : Int) < (N.length : Int) := by omega
            have HCe := hide (fun V (hV : Below wr.heap.size wr V) => (⟨(HX.out.2.1.below hV).eight0 hkk, (HX.out.2.2.below hV).eight0 hkn⟩ : _ ∧ _))
            have HSe := hide (fun V => settled_any V L[k])
            by_cases hs : (L[k]).st = 3 ∨ (L[k]).st = 4
            · rw [decide_eq_true hs] at HSe
              rw [p1 hs] at HCe p2 p3
              have hne := neqR_any L[k] L[k]
              rw [decide_eq_true rfl] at hne
              clear hs p1 p2 p3
              generalize L[k] = r at *
              have q1 : ¬ r.att < r.att := by omega
              have q2 : ¬ r.bdg < r.bdg := by omega
              go_wp2_with fail
              refine wp_region_held_drew (S := fun w' => Below wr.heap.size wr w') (by kernel_rfl) (⟨rfl, rfl, rfl, Nat.le_refl _, fun _ _ => rfl⟩) (fun hHeld => ?_)
              refine wpAnyH_take (i := 0) (v := .slice (some ⟨G, 0, none⟩) L.length L.length) rfl (by kernel_rfl) (by kernel_rfl) (by kernel_rfl) (fun _ _ _ h => h) (Or.inl ⟨by kernel_rfl, fun w1 hSw => by clear hHeld; obtain ⟨⟨k0, k1, k2, k3, k4, k5, k6, k7⟩, j0, j1, j2, j3, j4, j5, j6, j7⟩ := HCe.out _ hSw; go_simp⟩) hHeld ?_
              try simp only [Act.put]
              try simp only [List.getElem_toArray]
              try simp only [List.getElem_cons_succ]
              try simp only [List.getElem_cons_zero]
              try simp only [List.setIfInBounds_toArray]
              try simp only [List.set_cons_succ, List.set_cons_zero]
              refine wpAnyH_take (i := 1) (v := .int .i64 (k : Int)) rfl (by kernel_rfl) (by kernel_rfl) (by kernel_rfl) (fun _ _ _ h => h) (Or.inl ⟨by kernel_rfl, fun w1 hSw => by clear hHeld; obtain ⟨⟨k0, k1, k2, k3, k4, k5, k6, k7⟩, j0, j1, j2, j3, j4, j5, j6, j7⟩ := HCe.out _ hSw; go_simp⟩) hHeld ?_
              try simp only [Act.put]
              try simp only [List.getElem_toArray]
              try simp only [List.getElem_cons_succ]
              try simp only [List.getElem_cons_zero]
              try simp only [List.setIfInBounds_toArray]
              try simp only [List.set_cons_succ, List.set_cons_zero]
              refine wpAnyH_take (i := 2) (v := .pointer (some ⟨G, k * 8, none⟩)) rfl (by kernel_rfl) (by kernel_rfl) (by kernel_rfl) (fun _ _ _ h => h) (Or.inl ⟨by kernel_rfl, fun w1 hSw => by clear hHeld; obtain ⟨⟨k0, k1, k2, k3, k4, k5, k6, k7⟩, j0, j1, j2, j3, j4, j5, j6, j7⟩ := HCe.out _ hSw; go_simp⟩) hHeld ?_
              try simp only [Act.put]
              try simp only [List.getElem_toArray]
              try simp only [List.getElem_cons_succ]
              try simp only [List.getElem_cons_zero]
              try simp only [List.setIfInBounds_toArray]
              try simp only [List.set_cons_succ, List.set_cons_zero]
              refine wpAnyH_take (i := 3) (v := r.val) rfl (by kernel_rfl) (by kernel_rfl) (by kernel_rfl) (fun _ _ _ h => h) (Or.inl ⟨by kernel_rfl, fun w1 hSw => by clear hHeld; obtain ⟨⟨k0, k1, k2, k3, k4, k5, k6, k7⟩, j0, j1, j2, j3, j4, j5, j6, j7⟩ := HCe.out _ hSw; go_simp⟩) hHeld ?_
              try simp only [Act.put]
              try simp only [List.getElem_toArray]
              try simp only [List.getElem_cons_succ]
              try simp only [List.getElem_cons_zero]
              try simp only [List.setIfInBounds_toArray]
              try simp only [List.set_cons_succ, List.set_cons_zero]
              refine wpAnyH_ready (rs := [4]) (by kernel_rfl) (by simp) ?_
              refine AllReadyH.cons rfl (fun K hK => ?_) AllReadyH.nil
              go_simp
              refine (HSe.out _).mono ?_
              rintro e w6 ⟨rfl, hB6⟩
              refine hK.out _ _ (Below.trans hHeld (hB6.mono hHeld.size)) (fun hHeld => ?_)
              clear hK K
              try simp only [Act.put]
              try simp only [List.getElem_toArray]
              try simp only [List.getElem_cons_succ]
              try simp only [List.getElem_cons_zero]
              try simp only [List.setIfInBounds_toArray]
              try simp only [List.set_cons_succ, List.set_cons_zero]
              refine wpAnyH_take (i := 5) (v := .bool true) rfl (by kernel_rfl) (by kernel_rfl) (by kernel_rfl) (fun _ _ _ h => h) (Or.inl ⟨by kernel_rfl, fun w1 hSw => by clear hHeld; obtain ⟨⟨k0, k1, k2, k3, k4, k5, k6, k7⟩, j0, j1, j2, j3, j4, j5, j6, j7⟩ := HCe.out _ hSw; go_simp⟩) hHeld ?_
              try simp only [Act.put]
              try simp only [List.getElem_toArray]
              try simp only [List.getElem_cons_succ]
              try simp only [List.getElem_cons_zero]
              try simp only [List.setIfInBounds_toArray]
              try simp only [List.set_cons_succ, List.set_cons_zero]
              refine wpAnyH_take (i := 6) (v := .slice (some ⟨G2, 0, none⟩) N.length N.length) rfl (by kernel_rfl) (by kernel_rfl) (by kernel_rfl) (fun _ _ _ h => h) (Or.inl ⟨by kernel_rfl, fun w1 hSw => by clear hHeld; obtain ⟨⟨k0, k1, k2, k3, k4, k5, k6, k7⟩, j0, j1, j2, j3, j4, j5, j6, j7⟩ := HCe.out _ hSw; go_simp⟩) hHeld ?_
              try simp only [Act.put]
              try simp only [List.getElem_toArray]
              try simp only [List.getElem_cons_succ]
              try simp only [List.getElem_cons_zero]
              try simp only [List.setIfInBounds_toArray]
              try simp only [List.set_cons_succ, List.set_cons_zero]
              refine wpAnyH_take (i := 7) (v := .int .i64 (k : Int)) rfl (by kernel_rfl) (by kernel_rfl) (by kernel_rfl) (fun _ _ _ h => h) (Or.inl ⟨by kernel_rfl, fun w1 hSw => by clear hHeld; obtain ⟨⟨k0, k1, k2, k3, k4, k5, k6, k7⟩, j0, j1, j2, j3, j4, j5, j6, j7⟩ := HCe.out _ hSw; go_simp⟩) hHeld ?_
              try simp only [Act.put]
              try simp only [List.getElem_toArray]
              try simp only [List.getElem_cons_succ]
              try simp only [List.getElem_cons_zero]
              try simp only [List.setIfInBounds_toArray]
              try simp only [List.set_cons_succ, List.set_cons_zero]
              refine wpAnyH_take (i := 8) (v := .pointer (some ⟨G2, k * 8, none⟩)) rfl (by kernel_rfl) (by kernel_rfl) (by kernel_rfl) (fun _ _ _ h => h) (Or.inl ⟨by kernel_rfl, fun w1 hSw => by clear hHeld; obtain ⟨⟨k0, k1, k2, k3, k4, k5, k6, k7⟩, j0, j1, j2, j3, j4, j5, j6, j7⟩ := HCe.out _ hSw; go_simp⟩) hHeld ?_
              try simp only [Act.put]
              try simp only [List.getElem_toArray]
              try simp only [List.getElem_cons_succ]
              try simp only [List.getElem_cons_zero]
              try simp only [List.setIfInBounds_toArray]
              try simp only [List.set_cons_succ, List.set_cons_zero]
              refine wpAnyH_take (i := 9) (v := r.val) rfl (by kernel_rfl) (by kernel_rfl) (by kernel_rfl) (fun _ _ _ h => h) (Or.inl ⟨by kernel_rfl, fun w1 hSw => by clear hHeld; obtain ⟨⟨k0, k1, k2, k3, k4, k5, k6, k7⟩, j0, j1, j2, j3, j4, j5, j6, j7⟩ := HCe.out _ hSw; go_simp⟩) hHeld ?_
              try simp only [Act.put]
              try simp only [List.getElem_toArray]
              try simp only [List.getElem_cons_succ]
              try simp only [List.getElem_cons_zero]
              try simp only [List.setIfInBounds_toArray]
              try simp only [List.set_cons_succ, List.set_cons_zero]
              refine wpAnyH_take (i := 10) (v := .slice (some ⟨G, 0, none⟩) L.length L.length) rfl (by kernel_rfl) (by kernel_rfl) (by kernel_rfl) (fun _ _ _ h => h) (Or.inl ⟨by kernel_rfl, fun w1 hSw => by clear hHeld; obtain ⟨⟨k0, k1, k2, k3, k4, k5, k6, k7⟩, j0, j1, j2, j3, j4, j5, j6, j7⟩ := HCe.out _ hSw; go_simp⟩) hHeld ?_
              try simp only [Act.put]
              try simp only [List.getElem_toArray]
              try simp only [List.getElem_cons_succ]
              try simp only [List.getElem_cons_zero]
              try simp only [List.setIfInBounds_toArray]
              try simp only [List.set_cons_succ, List.set_cons_zero]
              refine wpAnyH_take (i := 11) (v := .int .i64 (k : Int)) rfl (by kernel_rfl) (by kernel_rfl) (by kernel_rfl) (fun _ _ _ h => h) (Or.inl ⟨by kernel_rfl, fun w1 hSw => by clear hHeld; obtain ⟨⟨k0, k1, k2, k3, k4, k5, k6, k7⟩, j0, j1, j2, j3, j4, j5, j6, j7⟩ := HCe.out _ hSw; go_simp⟩) hHeld ?_
              try simp only [Act.put]
              try simp only [List.getElem_toArray]
              try simp only [List.getElem_cons_succ]
              try simp only [List.getElem_cons_zero]
              try simp only [List.setIfInBounds_toArray]
              try simp only [List.set_cons_succ, List.set_cons_zero]
              refine wpAnyH_take (i := 12) (v := .pointer (some ⟨G, k * 8, none⟩)) rfl (by kernel_rfl) (by kernel_rfl) (by kernel_rfl) (fun _ _ _ h => h) (Or.inl ⟨by kernel_rfl, fun w1 hSw => by clear hHeld; obtain ⟨⟨k0, k1, k2, k3, k4, k5, k6, k7⟩, j0, j1, j2, j3, j4, j5, j6, j7⟩ := HCe.out _ hSw; go_simp⟩) hHeld ?_
              try simp only [Act.put]
              try simp only [List.getElem_toArray]
              try simp only [List.getElem_cons_succ]
              try simp only [List.getElem_cons_zero]
              try simp only [List.setIfInBounds_toArray]
              try simp only [List.set_cons_succ, List.set_cons_zero]
              refine wpAnyH_take (i := 13) (v := r.val) rfl (by kernel_rfl) (by kernel_rfl) (by kernel_rfl) (fun _ _ _ h => h) (Or.inl ⟨by kernel_rfl, fun w1 hSw => by clear hHeld; obtain ⟨⟨k0, k1, k2, k3, k4, k5, k6, k7⟩, j0, j1, j2, j3, j4, j5, j6, j7⟩ := HCe.out _ hSw; go_simp⟩) hHeld ?_
              try simp only [Act.put]
              try simp only [List.getElem_toArray]
              try simp only [List.getElem_cons_succ]
              try simp only [List.getElem_cons_zero]
              try simp only [List.setIfInBounds_toArray]
              try simp only [List.set_cons_succ, List.set_cons_zero]
              refine wpAnyH_take (i := 14) (v := .bool false) rfl (by kernel_rfl) (by kernel_rfl) (by kernel_rfl) (fun _ _ _ h => h) (Or.inl ⟨by kernel_rfl, fun w1 hSw => by clear hHeld; obtain ⟨⟨k0, k1, k2, k3, k4, k5, k6, k7⟩, j0, j1, j2, j3, j4, j5, j6, j7⟩ := HCe.out _ hSw; go_simp⟩) hHeld ?_
              try simp only [Act.put]
              try simp only [List.getElem_toArray]
              try simp only [List.getElem_cons_succ]
              try simp only [List.getElem_cons_zero]
              try simp only [List.setIfInBounds_toArray]
              try simp only [List.set_cons_succ, List.set_cons_zero]
              refine wpAnyH_take (i := 15) (v := .bool false) rfl (by kernel_rfl) (by kernel_rfl) (by kernel_rfl) (fun _ _ _ h => h) (Or.inl ⟨by kernel_rfl, fun w1 hSw => by clear hHeld; obtain ⟨⟨k0, k1, k2, k3, k4, k5, k6, k7⟩, j0, j1, j2, j3, j4, j5, j6, j7⟩ := HCe.out _ hSw; go_simp⟩) hHeld ?_
              try simp only [Act.put]
              try simp only [List.getElem_toArray]
              try simp only [List.getElem_cons_succ]
              try simp only [List.getElem_cons_zero]
              try simp only [List.setIfInBounds_toArray]
              try simp only [List.set_cons_succ, List.set_cons_zero]
              refine wpAnyH_take (i := 16) (v := .bool false) rfl (by kernel_rfl) (by kernel_rfl) (by kernel_rfl) (fun _ _ _ h => h) (Or.inl ⟨by kernel_rfl, fun w1 hSw => by clear hHeld; obtain ⟨⟨k0, k1, k2, k3, k4, k5, k6, k7⟩, j0, j1, j2, j3, j4, j5, j6, j7⟩ := HCe.out _ hSw; go_simp⟩) hHeld ?_
              try simp only [Act.put]
              try simp only [List.getElem_toArray]
              try simp only [List.getElem_cons_succ]
              try simp only [List.getElem_cons_zero]
              try simp only [List.setIfInBounds_toArray]
              try simp only [List.set_cons_succ, List.set_cons_zero]
              refine wpAnyH_take (i := 17) (v := .slice (some ⟨G2, 0, none⟩) N.length N.length) rfl (by kernel_rfl) (by kernel_rfl) (by kernel_rfl) (fun _ _ _ h => h) (Or.inl ⟨by kernel_rfl, fun w1 hSw => by clear hHeld; obtain ⟨⟨k0, k1, k2, k3, k4, k5, k6, k7⟩, j0, j1, j2, j3, j4, j5, j6, j7⟩ := HCe.out _ hSw; go_simp⟩) hHeld ?_
              try simp only [Act.put]
              try simp only [List.getElem_toArray]
              try simp only [List.getElem_cons_succ]
              try simp only [List.getElem_cons_zero]
              try simp only [List.setIfInBounds_toArray]
              try simp only [List.set_cons_succ, List.set_cons_zero]
              refine wpAnyH_take (i := 18) (v := .int .i64 (k : Int)) rfl (by kernel_rfl) (by kernel_rfl) (by kernel_rfl) (fun _ _ _ h => h) (Or.inl ⟨by kernel_rfl, fun w1 hSw => by clear hHeld; obtain ⟨⟨k0, k1, k2, k3, k4, k5, k6, k7⟩, j0, j1, j2, j3, j4, j5, j6, j7⟩ := HCe.out _ hSw; go_simp⟩) hHeld ?_
              try simp only [Act.put]
              try simp only [List.getElem_toArray]
              try simp only [List.getElem_cons_succ]
              try simp only [List.getElem_cons_zero]
              try simp only [List.setIfInBounds_toArray]
              try simp only [List.set_cons_succ, List.set_cons_zero]
              refine wpAnyH_take (i := 19) (v := .pointer (some ⟨G2, k * 8, none⟩)) rfl (by kernel_rfl) (by kernel_rfl) (by kernel_rfl) (fun _ _ _ h => h) (Or.inl ⟨by kernel_rfl, fun w1 hSw => by clear hHeld; obtain ⟨⟨k0, k1, k2, k3, k4, k5, k6, k7⟩, j0, j1, j2, j3, j4, j5, j6, j7⟩ := HCe.out _ hSw; go_simp⟩) hHeld ?_
              try simp only [Act.put]
              try simp only [List.getElem_toArray]
              try simp only [List.getElem_cons_succ]
              try simp only [List.getElem_cons_zero]
              try simp only [List.setIfInBounds_toArray]
              try simp only [List.set_cons_succ, List.set_cons_zero]
              refine wpAnyH_take (i := 20) (v := .pointer (some ⟨G2, k * 8 + 2, none⟩)) rfl (by kernel_rfl) (by kernel_rfl) (by kernel_rfl) (fun _ _ _ h => h) (Or.inl ⟨by kernel_rfl, fun w1 hSw => by clear hHeld; obtain ⟨⟨k0, k1, k2, k3, k4, k5, k6, k7⟩, j0, j1, j2, j3, j4, j5, j6, j7⟩ := HCe.out _ hSw; go_simp⟩) hHeld ?_
              try simp only [Act.put]
              try simp only [List.getElem_toArray]
              try simp only [List.getElem_cons_succ]
              try simp only [List.getElem_cons_zero]
              try simp only [List.setIfInBounds_toArray]
              try simp only [List.set_cons_succ, List.set_cons_zero]
              refine wpAnyH_take (i := 21) (v := .int .i64 r.att) rfl (by kernel_rfl) (by kernel_rfl) (by kernel_rfl) (fun _ _ _ h => h) (Or.inl ⟨by kernel_rfl, fun w1 hSw => by clear hHeld; obtain ⟨⟨k0, k1, k2, k3, k4, k5, k6, k7⟩, j0, j1, j2, j3, j4, j5, j6, j7⟩ := HCe.out _ hSw; go_simp⟩) hHeld ?_
              try simp only [Act.put]
              try simp only [List.getElem_toArray]
              try simp only [List.getElem_cons_succ]
              try simp only [List.getElem_cons_zero]
              try simp only [List.setIfInBounds_toArray]
              try simp only [List.set_cons_succ, List.set_cons_zero]
              refine wpAnyH_take (i := 22) (v := .slice (some ⟨G, 0, none⟩) L.length L.length) rfl (by kernel_rfl) (by kernel_rfl) (by kernel_rfl) (fun _ _ _ h => h) (Or.inl ⟨by kernel_rfl, fun w1 hSw => by clear hHeld; obtain ⟨⟨k0, k1, k2, k3, k4, k5, k6, k7⟩, j0, j1, j2, j3, j4, j5, j6, j7⟩ := HCe.out _ hSw; go_simp⟩) hHeld ?_
              try simp only [Act.put]
              try simp only [List.getElem_toArray]
              try simp only [List.getElem_cons_succ]
              try simp only [List.getElem_cons_zero]
              try simp only [List.setIfInBounds_toArray]
              try simp only [List.set_cons_succ, List.set_cons_zero]
              refine wpAnyH_take (i := 23) (v := .int .i64 (k : Int)) rfl (by kernel_rfl) (by kernel_rfl) (by kernel_rfl) (fun _ _ _ h => h) (Or.inl ⟨by kernel_rfl, fun w1 hSw => by clear hHeld; obtain ⟨⟨k0, k1, k2, k3, k4, k5, k6, k7⟩, j0, j1, j2, j3, j4, j5, j6, j7⟩ := HCe.out _ hSw; go_simp⟩) hHeld ?_
              try simp only [Act.put]
              try simp only [List.getElem_toArray]
              try simp only [List.getElem_cons_succ]
              try simp only [List.getElem_cons_zero]
              try simp only [List.setIfInBounds_toArray]
              try simp only [List.set_cons_succ, List.set_cons_zero]
              refine wpAnyH_take (i := 24) (v := .pointer (some ⟨G, k * 8, none⟩)) rfl (by kernel_rfl) (by kernel_rfl) (by kernel_rfl) (fun _ _ _ h => h) (Or.inl ⟨by kernel_rfl, fun w1 hSw => by clear hHeld; obtain ⟨⟨k0, k1, k2, k3, k4, k5, k6, k7⟩, j0, j1, j2, j3, j4, j5, j6, j7⟩ := HCe.out _ hSw; go_simp⟩) hHeld ?_
              try simp only [Act.put]
              try simp only [List.getElem_toArray]
              try simp only [List.getElem_cons_succ]
              try simp only [List.getElem_cons_zero]
              try simp only [List.setIfInBounds_toArray]
              try simp only [List.set_cons_succ, List.set_cons_zero]
              refine wpAnyH_take (i := 25) (v := .pointer (some ⟨G, k * 8 + 2, none⟩)) rfl (by kernel_rfl) (by kernel_rfl) (by kernel_rfl) (fun _ _ _ h => h) (Or.inl ⟨by kernel_rfl, fun w1 hSw => by clear hHeld; obtain ⟨⟨k0, k1, k2, k3, k4, k5, k6, k7⟩, j0, j1, j2, j3, j4, j5, j6, j7⟩ := HCe.out _ hSw; go_simp⟩) hHeld ?_
              try simp only [Act.put]
              try simp only [List.getElem_toArray]
              try simp only [List.getElem_cons_succ]
              try simp only [List.getElem_cons_zero]
              try simp only [List.setIfInBounds_toArray]
              try simp only [List.set_cons_succ, List.set_cons_zero]
              refine wpAnyH_take (i := 26) (v := .int .i64 r.att) rfl (by kernel_rfl) (by kernel_rfl) (by kernel_rfl) (fun _ _ _ h => h) (Or.inl ⟨by kernel_rfl, fun w1 hSw => by clear hHeld; obtain ⟨⟨k0, k1, k2, k3, k4, k5, k6, k7⟩, j0, j1, j2, j3, j4, j5, j6, j7⟩ := HCe.out _ hSw; go_simp⟩) hHeld ?_
              try simp only [Act.put]
              try simp only [List.getElem_toArray]
              try simp only [List.getElem_cons_succ]
              try simp only [List.getElem_cons_zero]
              try simp only [List.setIfInBounds_toArray]
              try simp only [List.set_cons_succ, List.set_cons_zero]
              refine wpAnyH_take (i := 27) (v := .bool false) rfl (by kernel_rfl) (by kernel_rfl) (by kernel_rfl) (fun _ _ _ h => h) (Or.inl ⟨by kernel_rfl, fun w1 hSw => by clear hHeld; obtain ⟨⟨k0, k1, k2, k3, k4, k5, k6, k7⟩, j0, j1, j2, j3, j4, j5, j6, j7⟩ := HCe.out _ hSw; go_simp⟩) hHeld ?_
              try simp only [Act.put]
              try simp only [List.getElem_toArray]
              try simp only [List.getElem_cons_succ]
              try simp only [List.getElem_cons_zero]
              try simp only [List.setIfInBounds_toArray]
              try simp only [List.set_cons_succ, List.set_cons_zero]
              refine wpAnyH_take (i := 28) (v := .bool false) rfl (by kernel_rfl) (by kernel_rfl) (by kernel_rfl) (fun _ _ _ h => h) (Or.inl ⟨by kernel_rfl, fun w1 hSw => by clear hHeld; obtain ⟨⟨k0, k1, k2, k3, k4, k5, k6, k7⟩, j0, j1, j2, j3, j4, j5, j6, j7⟩ := HCe.out _ hSw; go_simp⟩) hHeld ?_
              try simp only [Act.put]
              try simp only [List.getElem_toArray]
              try simp only [List.getElem_cons_succ]
              try simp only [List.getElem_cons_zero]
              try simp only [List.setIfInBounds_toArray]
              try simp only [List.set_cons_succ, List.set_cons_zero]
              refine wpAnyH_take (i := 29) (v := .bool false) rfl (by kernel_rfl) (by kernel_rfl) (by kernel_rfl) (fun _ _ _ h => h) (Or.inl ⟨by kernel_rfl, fun w1 hSw => by clear hHeld; obtain ⟨⟨k0, k1, k2, k3, k4, k5, k6, k7⟩, j0, j1, j2, j3, j4, j5, j6, j7⟩ := HCe.out _ hSw; go_simp⟩) hHeld ?_
              try simp only [Act.put]
              try simp only [List.getElem_toArray]
              try simp only [List.getElem_cons_succ]
              try simp only [List.getElem_cons_zero]
              try simp only [List.setIfInBounds_toArray]
              try simp only [List.set_cons_succ, List.set_cons_zero]
              refine wpAnyH_take (i := 30) (v := .slice (some ⟨G2, 0, none⟩) N.length N.length) rfl (by kernel_rfl) (by kernel_rfl) (by kernel_rfl) (fun _ _ _ h => h) (Or.inl ⟨by kernel_rfl, fun w1 hSw => by clear hHeld; obtain ⟨⟨k0, k1, k2, k3, k4, k5, k6, k7⟩, j0, j1, j2, j3, j4, j5, j6, j7⟩ := HCe.out _ hSw; go_simp⟩) hHeld ?_
              try simp only [Act.put]
              try simp only [List.getElem_toArray]
              try simp only [List.getElem_cons_succ]
              try simp only [List.getElem_cons_zero]
              try simp only [List.setIfInBounds_toArray]
              try simp only [List.set_cons_succ, List.set_cons_zero]
              refine wpAnyH_take (i := 31) (v := .int .i64 (k : Int)) rfl (by kernel_rfl) (by kernel_rfl) (by kernel_rfl) (fun _ _ _ h => h) (Or.inl ⟨by kernel_rfl, fun w1 hSw => by clear hHeld; obtain ⟨⟨k0, k1, k2, k3, k4, k5, k6, k7⟩, j0, j1, j2, j3, j4, j5, j6, j7⟩ := HCe.out _ hSw; go_simp⟩) hHeld ?_
              try simp only [Act.put]
              try simp only [List.getElem_toArray]
              try simp only [List.getElem_cons_succ]
              try simp only [List.getElem_cons_zero]
              try simp only [List.setIfInBounds_toArray]
              try simp only [List.set_cons_succ, List.set_cons_zero]
              refine wpAnyH_take (i := 32) (v := .pointer (some ⟨G2, k * 8, none⟩)) rfl (by kernel_rfl) (by kernel_rfl) (by kernel_rfl) (fun _ _ _ h => h) (Or.inl ⟨by kernel_rfl, fun w1 hSw => by clear hHeld; obtain ⟨⟨k0, k1, k2, k3, k4, k5, k6, k7⟩, j0, j1, j2, j3, j4, j5, j6, j7⟩ := HCe.out _ hSw; go_simp⟩) hHeld ?_
              try simp only [Act.put]
              try simp only [List.getElem_toArray]
              try simp only [List.getElem_cons_succ]
              try simp only [List.getElem_cons_zero]
              try simp only [List.setIfInBounds_toArray]
              try simp only [List.set_cons_succ, List.set_cons_zero]
              refine wpAnyH_take (i := 33) (v := .pointer (some ⟨G2, k * 8 + 3, none⟩)) rfl (by kernel_rfl) (by kernel_rfl) (by kernel_rfl) (fun _ _ _ h => h) (Or.inl ⟨by kernel_rfl, fun w1 hSw => by clear hHeld; obtain ⟨⟨k0, k1, k2, k3, k4, k5, k6, k7⟩, j0, j1, j2, j3, j4, j5, j6, j7⟩ := HCe.out _ hSw; go_simp⟩) hHeld ?_
              try simp only [Act.put]
              try simp only [List.getElem_toArray]
              try simp only [List.getElem_cons_succ]
              try simp only [List.getElem_cons_zero]
              try simp only [List.setIfInBounds_toArray]
              try simp only [List.set_cons_succ, List.set_cons_zero]
              refine wpAnyH_take (i := 34) (v := .int .i64 r.bdg) rfl (by kernel_rfl) (by kernel_rfl) (by kernel_rfl) (fun _ _ _ h => h) (Or.inl ⟨by kernel_rfl, fun w1 hSw => by clear hHeld; obtain ⟨⟨k0, k1, k2, k3, k4, k5, k6, k7⟩, j0, j1, j2, j3, j4, j5, j6, j7⟩ := HCe.out _ hSw; go_simp⟩) hHeld ?_
              try simp only [Act.put]
              try simp only [List.getElem_toArray]
              try simp only [List.getElem_cons_succ]
              try simp only [List.getElem_cons_zero]
              try simp only [List.setIfInBounds_toArray]
              try simp only [List.set_cons_succ, List.set_cons_zero]
              refine wpAnyH_take (i := 35) (v := .slice (some ⟨G, 0, none⟩) L.length L.length) rfl (by kernel_rfl) (by kernel_rfl) (by kernel_rfl) (fun _ _ _ h => h) (Or.inl ⟨by kernel_rfl, fun w1 hSw => by clear hHeld; obtain ⟨⟨k0, k1, k2, k3, k4, k5, k6, k7⟩, j0, j1, j2, j3, j4, j5, j6, j7⟩ := HCe.out _ hSw; go_simp⟩) hHeld ?_
              try simp only [Act.put]
              try simp only [List.getElem_toArray]
              try simp only [List.getElem_cons_succ]
              try simp only [List.getElem_cons_zero]
              try simp only [List.setIfInBounds_toArray]
              try simp only [List.set_cons_succ, List.set_cons_zero]
              refine wpAnyH_take (i := 36) (v := .int .i64 (k : Int)) rfl (by kernel_rfl) (by kernel_rfl) (by kernel_rfl) (fun _ _ _ h => h) (Or.inl ⟨by kernel_rfl, fun w1 hSw => by clear hHeld; obtain ⟨⟨k0, k1, k2, k3, k4, k5, k6, k7⟩, j0, j1, j2, j3, j4, j5, j6, j7⟩ := HCe.out _ hSw; go_simp⟩) hHeld ?_
              try simp only [Act.put]
              try simp only [List.getElem_toArray]
              try simp only [List.getElem_cons_succ]
              try simp only [List.getElem_cons_zero]
              try simp only [List.setIfInBounds_toArray]
              try simp only [List.set_cons_succ, List.set_cons_zero]
              refine wpAnyH_take (i := 37) (v := .pointer (some ⟨G, k * 8, none⟩)) rfl (by kernel_rfl) (by kernel_rfl) (by kernel_rfl) (fun _ _ _ h => h) (Or.inl ⟨by kernel_rfl, fun w1 hSw => by clear hHeld; obtain ⟨⟨k0, k1, k2, k3, k4, k5, k6, k7⟩, j0, j1, j2, j3, j4, j5, j6, j7⟩ := HCe.out _ hSw; go_simp⟩) hHeld ?_
              try simp only [Act.put]
              try simp only [List.getElem_toArray]
              try simp only [List.getElem_cons_succ]
              try simp only [List.getElem_cons_zero]
              try simp only [List.setIfInBounds_toArray]
              try simp only [List.set_cons_succ, List.set_cons_zero]
              refine wpAnyH_take (i := 38) (v := .pointer (some ⟨G, k * 8 + 3, none⟩)) rfl (by kernel_rfl) (by kernel_rfl) (by kernel_rfl) (fun _ _ _ h => h) (Or.inl ⟨by kernel_rfl, fun w1 hSw => by clear hHeld; obtain ⟨⟨k0, k1, k2, k3, k4, k5, k6, k7⟩, j0, j1, j2, j3, j4, j5, j6, j7⟩ := HCe.out _ hSw; go_simp⟩) hHeld ?_
              try simp only [Act.put]
              try simp only [List.getElem_toArray]
              try simp only [List.getElem_cons_succ]
              try simp only [List.getElem_cons_zero]
              try simp only [List.setIfInBounds_toArray]
              try simp only [List.set_cons_succ, List.set_cons_zero]
              refine wpAnyH_take (i := 39) (v := .int .i64 r.bdg) rfl (by kernel_rfl) (by kernel_rfl) (by kernel_rfl) (fun _ _ _ h => h) (Or.inl ⟨by kernel_rfl, fun w1 hSw => by clear hHeld; obtain ⟨⟨k0, k1, k2, k3, k4, k5, k6, k7⟩, j0, j1, j2, j3, j4, j5, j6, j7⟩ := HCe.out _ hSw; go_simp⟩) hHeld ?_
              try simp only [Act.put]
              try simp only [List.getElem_toArray]
              try simp only [List.getElem_cons_succ]
              try simp only [List.getElem_cons_zero]
              try simp only [List.setIfInBounds_toArray]
              try simp only [List.set_cons_succ, List.set_cons_zero]
              refine wpAnyH_take (i := 40) (v := .bool false) rfl (by kernel_rfl) (by kernel_rfl) (by kernel_rfl) (fun _ _ _ h => h) (Or.inl ⟨by kernel_rfl, fun w1 hSw => by clear hHeld; obtain ⟨⟨k0, k1, k2, k3, k4, k5, k6, k7⟩, j0, j1, j2, j3, j4, j5, j6, j7⟩ := HCe.out _ hSw; go_simp⟩) hHeld ?_
              try simp only [Act.put]
              try simp only [List.getElem_toArray]
              try simp only [List.getElem_cons_succ]
              try simp only [List.getElem_cons_zero]
              try simp only [List.setIfInBounds_toArray]
              try simp only [List.set_cons_succ, List.set_cons_zero]
              refine wpAnyH_take (i := 41) (v := .bool false) rfl (by kernel_rfl) (by kernel_rfl) (by kernel_rfl) (fun _ _ _ h => h) (Or.inl ⟨by kernel_rfl, fun w1 hSw => by clear hHeld; obtain ⟨⟨k0, k1, k2, k3, k4, k5, k6, k7⟩, j0, j1, j2, j3, j4, j5, j6, j7⟩ := HCe.out _ hSw; go_simp⟩) hHeld ?_
              try simp only [Act.put]
              try simp only [List.getElem_toArray]
              try simp only [List.getElem_cons_succ]
              try simp only [List.getElem_cons_zero]
              try simp only [List.setIfInBounds_toArray]
              try simp only [List.set_cons_succ, List.set_cons_zero]
              refine wpAnyH_done (by kernel_rfl) ?_ _
              have HBf := hide hHeld
              clear hHeld
              go_wp2_with fail
              go_roundw
              case rel => exact ⟨k + 1, by omega, by go_num, hide ⟨HX.out.1.below HBf.out, HX.out.2.1.below HBf.out, HX.out.2.2.below HBf.out⟩⟩
              case measure => simp only [intOf]; omega
            · rw [decide_eq_false hs] at HSe
              clear hs p1
              generalize hr : L[k] = r at *
              generalize hr2 : N[k] = r2 at *
              clear hr hr2
              have q1 : ¬ r2.att < r.att := by omega
              have q2 : ¬ r2.bdg < r.bdg := by omega
              clear p2 p3
              go_wp2_with fail
              refine wp_region_held_drew (S := fun w' => Below wr.heap.size wr w') (by kernel_rfl) (⟨rfl, rfl, rfl, Nat.le_refl _, fun _ _ => rfl⟩) (fun hHeld => ?_)
              refine wpAnyH_take (i := 0) (v := .slice (some ⟨G, 0, none⟩) L.length L.length) rfl (by kernel_rfl) (by kernel_rfl) (by kernel_rfl) (fun _ _ _ h => h) (Or.inl ⟨by kernel_rfl, fun w1 hSw => by clear hHeld; obtain ⟨⟨k0, k1, k2, k3, k4, k5, k6, k7⟩, j0, j1, j2, j3, j4, j5, j6, j7⟩ := HCe.out _ hSw; go_simp⟩) hHeld ?_
              try simp only [Act.put]
              try simp only [List.getElem_toArray]
              try simp only [List.getElem_cons_succ]
              try simp only [List.getElem_cons_zero]
              try simp only [List.setIfInBounds_toArray]
              try simp only [List.set_cons_succ, List.set_cons_zero]
              refine wpAnyH_take (i := 1) (v := .int .i64 (k : Int)) rfl (by kernel_rfl) (by kernel_rfl) (by kernel_rfl) (fun _ _ _ h => h) (Or.inl ⟨by kernel_rfl, fun w1 hSw => by clear hHeld; obtain ⟨⟨k0, k1, k2, k3, k4, k5, k6, k7⟩, j0, j1, j2, j3, j4, j5, j6, j7⟩ := HCe.out _ hSw; go_simp⟩) hHeld ?_
              try simp only [Act.put]
              try simp only [List.getElem_toArray]
              try simp only [List.getElem_cons_succ]
              try simp only [List.getElem_cons_zero]
              try simp only [List.setIfInBounds_toArray]
              try simp only [List.set_cons_succ, List.set_cons_zero]
              refine wpAnyH_take (i := 2) (v := .pointer (some ⟨G, k * 8, none⟩)) rfl (by kernel_rfl) (by kernel_rfl) (by kernel_rfl) (fun _ _ _ h => h) (Or.inl ⟨by kernel_rfl, fun w1 hSw => by clear hHeld; obtain ⟨⟨k0, k1, k2, k3, k4, k5, k6, k7⟩, j0, j1, j2, j3, j4, j5, j6, j7⟩ := HCe.out _ hSw; go_simp⟩) hHeld ?_
              try simp only [Act.put]
              try simp only [List.getElem_toArray]
              try simp only [List.getElem_cons_succ]
              try simp only [List.getElem_cons_zero]
              try simp only [List.setIfInBounds_toArray]
              try simp only [List.set_cons_succ, List.set_cons_zero]
              refine wpAnyH_take (i := 3) (v := r.val) rfl (by kernel_rfl) (by kernel_rfl) (by kernel_rfl) (fun _ _ _ h => h) (Or.inl ⟨by kernel_rfl, fun w1 hSw => by clear hHeld; obtain ⟨⟨k0, k1, k2, k3, k4, k5, k6, k7⟩, j0, j1, j2, j3, j4, j5, j6, j7⟩ := HCe.out _ hSw; go_simp⟩) hHeld ?_
              try simp only [Act.put]
              try simp only [List.getElem_toArray]
              try simp only [List.getElem_cons_succ]
              try simp only [List.getElem_cons_zero]
              try simp only [List.setIfInBounds_toArray]
              try simp only [List.set_cons_succ, List.set_cons_zero]
              refine wpAnyH_ready (rs := [4]) (by kernel_rfl) (by simp) ?_
              refine AllReadyH.cons rfl (fun K hK => ?_) AllReadyH.nil
              go_simp
              refine (HSe.out _).mono ?_
              rintro e w6 ⟨rfl, hB6⟩
              refine hK.out _ _ (Below.trans hHeld (hB6.mono hHeld.size)) (fun hHeld => ?_)
              clear hK K
              try simp only [Act.put]
              try simp only [List.getElem_toArray]
              try simp only [List.getElem_cons_succ]
              try simp only [List.getElem_cons_zero]
              try simp only [List.setIfInBounds_toArray]
              try simp only [List.set_cons_succ, List.set_cons_zero]
              refine wpAnyH_take (i := 5) (v := .bool false) rfl (by kernel_rfl) (by kernel_rfl) (by kernel_rfl) (fun _ _ _ h => h) (Or.inl ⟨by kernel_rfl, fun w1 hSw => by clear hHeld; obtain ⟨⟨k0, k1, k2, k3, k4, k5, k6, k7⟩, j0, j1, j2, j3, j4, j5, j6, j7⟩ := HCe.out _ hSw; go_simp⟩) hHeld ?_
              try simp only [Act.put]
              try simp only [List.getElem_toArray]
              try simp only [List.getElem_cons_succ]
              try simp only [List.getElem_cons_zero]
              try simp only [List.setIfInBounds_toArray]
              try simp only [List.set_cons_succ, List.set_cons_zero]
              refine wpAnyH_take (i := 6) (v := undef) rfl (by kernel_rfl) (by kernel_rfl) (by kernel_rfl) (fun _ _ _ h => h) (Or.inr ⟨by kernel_rfl, rfl⟩) hHeld ?_
              try simp only [Act.put]
              try simp only [List.getElem_toArray]
              try simp only [List.getElem_cons_succ]
              try simp only [List.getElem_cons_zero]
              try simp only [List.setIfInBounds_toArray]
              try simp only [List.set_cons_succ, List.set_cons_zero]
              refine wpAnyH_take (i := 7) (v := undef) rfl (by kernel_rfl) (by kernel_rfl) (by kernel_rfl) (fun _ _ _ h => h) (Or.inr ⟨by kernel_rfl, rfl⟩) hHeld ?_
              try simp only [Act.put]
              try simp only [List.getElem_toArray]
              try simp only [List.getElem_cons_succ]
              try simp only [List.getElem_cons_zero]
              try simp only [List.setIfInBounds_toArray]
              try simp only [List.set_cons_succ, List.set_cons_zero]
              refine wpAnyH_take (i := 8) (v := undef) rfl (by kernel_rfl) (by kernel_rfl) (by kernel_rfl) (fun _ _ _ h => h) (Or.inr ⟨by kernel_rfl, rfl⟩) hHeld ?_
              try simp only [Act.put]
              try simp only [List.getElem_toArray]
              try simp only [List.getElem_cons_succ]
              try simp only [List.getElem_cons_zero]
              try simp only [List.setIfInBounds_toArray]
              try simp only [List.set_cons_succ, List.set_cons_zero]
              refine wpAnyH_take (i := 9) (v := undef) rfl (by kernel_rfl) (by kernel_rfl) (by kernel_rfl) (fun _ _ _ h => h) (Or.inr ⟨by kernel_rfl, rfl⟩) hHeld ?_
              try simp only [Act.put]
              try simp only [List.getElem_toArray]
              try simp only [List.getElem_cons_succ]
              try simp only [List.getElem_cons_zero]
              try simp only [List.setIfInBounds_toArray]
              try simp only [List.set_cons_succ, List.set_cons_zero]
              refine wpAnyH_take (i := 10) (v := undef) rfl (by kernel_rfl) (by kernel_rfl) (by kernel_rfl) (fun _ _ _ h => h) (Or.inr ⟨by kernel_rfl, rfl⟩) hHeld ?_
              try simp only [Act.put]
              try simp only [List.getElem_toArray]
              try simp only [List.getElem_cons_succ]
              try simp only [List.getElem_cons_zero]
              try simp only [List.setIfInBounds_toArray]
              try simp only [List.set_cons_succ, List.set_cons_zero]
              refine wpAnyH_take (i := 11) (v := undef) rfl (by kernel_rfl) (by kernel_rfl) (by kernel_rfl) (fun _ _ _ h => h) (Or.inr ⟨by kernel_rfl, rfl⟩) hHeld ?_
              try simp only [Act.put]
              try simp only [List.getElem_toArray]
              try simp only [List.getElem_cons_succ]
              try simp only [List.getElem_cons_zero]
              try simp only [List.setIfInBounds_toArray]
              try simp only [List.set_cons_succ, List.set_cons_zero]
              refine wpAnyH_take (i := 12) (v := undef) rfl (by kernel_rfl) (by kernel_rfl) (by kernel_rfl) (fun _ _ _ h => h) (Or.inr ⟨by kernel_rfl, rfl⟩) hHeld ?_
              try simp only [Act.put]
              try simp only [List.getElem_toArray]
              try simp only [List.getElem_cons_succ]
              try simp only [List.getElem_cons_zero]
              try simp only [List.setIfInBounds_toArray]
              try simp only [List.set_cons_succ, List.set_cons_zero]
              refine wpAnyH_take (i := 13) (v := undef) rfl (by kernel_rfl) (by kernel_rfl) (by kernel_rfl) (fun _ _ _ h => h) (Or.inr ⟨by kernel_rfl, rfl⟩) hHeld ?_
              try simp only [Act.put]
              try simp only [List.getElem_toArray]
              try simp only [List.getElem_cons_succ]
              try simp only [List.getElem_cons_zero]
              try simp only [List.setIfInBounds_toArray]
              try simp only [List.set_cons_succ, List.set_cons_zero]
              refine wpAnyH_take (i := 14) (v := undef) rfl (by kernel_rfl) (by kernel_rfl) (by kernel_rfl) (fun _ _ _ h => h) (Or.inr ⟨by kernel_rfl, rfl⟩) hHeld ?_
              try simp only [Act.put]
              try simp only [List.getElem_toArray]
              try simp only [List.getElem_cons_succ]
              try simp only [List.getElem_cons_zero]
              try simp only [List.setIfInBounds_toArray]
              try simp only [List.set_cons_succ, List.set_cons_zero]
              refine wpAnyH_take (i := 15) (v := .bool false) rfl (by kernel_rfl) (by kernel_rfl) (by kernel_rfl) (fun _ _ _ h => h) (Or.inl ⟨by kernel_rfl, fun w1 hSw => by clear hHeld; obtain ⟨⟨k0, k1, k2, k3, k4, k5, k6, k7⟩, j0, j1, j2, j3, j4, j5, j6, j7⟩ := HCe.out _ hSw; go_simp⟩) hHeld ?_
              try simp only [Act.put]
              try simp only [List.getElem_toArray]
              try simp only [List.getElem_cons_succ]
              try simp only [List.getElem_cons_zero]
              try simp only [List.setIfInBounds_toArray]
              try simp only [List.set_cons_succ, List.set_cons_zero]
              refine wpAnyH_take (i := 16) (v := .bool false) rfl (by kernel_rfl) (by kernel_rfl) (by kernel_rfl) (fun _ _ _ h => h) (Or.inl ⟨by kernel_rfl, fun w1 hSw => by clear hHeld; obtain ⟨⟨k0, k1, k2, k3, k4, k5, k6, k7⟩, j0, j1, j2, j3, j4, j5, j6, j7⟩ := HCe.out _ hSw; go_simp⟩) hHeld ?_
              try simp only [Act.put]
              try simp only [List.getElem_toArray]
              try simp only [List.getElem_cons_succ]
              try simp only [List.getElem_cons_zero]
              try simp only [List.setIfInBounds_toArray]
              try simp only [List.set_cons_succ, List.set_cons_zero]
              refine wpAnyH_take (i := 17) (v := .slice (some ⟨G2, 0, none⟩) N.length N.length) rfl (by kernel_rfl) (by kernel_rfl) (by kernel_rfl) (fun _ _ _ h => h) (Or.inl ⟨by kernel_rfl, fun w1 hSw => by clear hHeld; obtain ⟨⟨k0, k1, k2, k3, k4, k5, k6, k7⟩, j0, j1, j2, j3, j4, j5, j6, j7⟩ := HCe.out _ hSw; go_simp⟩) hHeld ?_
              try simp only [Act.put]
              try simp only [List.getElem_toArray]
              try simp only [List.getElem_cons_succ]
              try simp only [List.getElem_cons_zero]
              try simp only [List.setIfInBounds_toArray]
              try simp only [List.set_cons_succ, List.set_cons_zero]
              refine wpAnyH_take (i := 18) (v := .int .i64 (k : Int)) rfl (by kernel_rfl) (by kernel_rfl) (by kernel_rfl) (fun _ _ _ h => h) (Or.inl ⟨by kernel_rfl, fun w1 hSw => by clear hHeld; obtain ⟨⟨k0, k1, k2, k3, k4, k5, k6, k7⟩, j0, j1, j2, j3, j4, j5, j6, j7⟩ := HCe.out _ hSw; go_simp⟩) hHeld ?_
              try simp only [Act.put]
              try simp only [List.getElem_toArray]
              try simp only [List.getElem_cons_succ]
              try simp only [List.getElem_cons_zero]
              try simp only [List.setIfInBounds_toArray]
              try simp only [List.set_cons_succ, List.set_cons_zero]
              refine wpAnyH_take (i := 19) (v := .pointer (some ⟨G2, k * 8, none⟩)) rfl (by kernel_rfl) (by kernel_rfl) (by kernel_rfl) (fun _ _ _ h => h) (Or.inl ⟨by kernel_rfl, fun w1 hSw => by clear hHeld; obtain ⟨⟨k0, k1, k2, k3, k4, k5, k6, k7⟩, j0, j1, j2, j3, j4, j5, j6, j7⟩ := HCe.out _ hSw; go_simp⟩) hHeld ?_
              try simp only [Act.put]
              try simp only [List.getElem_toArray]
              try simp only [List.getElem_cons_succ]
              try simp only [List.getElem_cons_zero]
              try simp only [List.setIfInBounds_toArray]
              try simp only [List.set_cons_succ, List.set_cons_zero]
              refine wpAnyH_take (i := 20) (v := .pointer (some ⟨G2, k * 8 + 2, none⟩)) rfl (by kernel_rfl) (by kernel_rfl) (by kernel_rfl) (fun _ _ _ h => h) (Or.inl ⟨by kernel_rfl, fun w1 hSw => by clear hHeld; obtain ⟨⟨k0, k1, k2, k3, k4, k5, k6, k7⟩, j0, j1, j2, j3, j4, j5, j6, j7⟩ := HCe.out _ hSw; go_simp⟩) hHeld ?_
              try simp only [Act.put]
              try simp only [List.getElem_toArray]
              try simp only [List.getElem_cons_succ]
              try simp only [List.getElem_cons_zero]
              try simp only [List.setIfInBounds_toArray]
              try simp only [List.set_cons_succ, List.set_cons_zero]
              refine wpAnyH_take (i := 21) (v := .int .i64 r2.att) rfl (by kernel_rfl) (by kernel_rfl) (by kernel_rfl) (fun _ _ _ h => h) (Or.inl ⟨by kernel_rfl, fun w1 hSw => by clear hHeld; obtain ⟨⟨k0, k1, k2, k3, k4, k5, k6, k7⟩, j0, j1, j2, j3, j4, j5, j6, j7⟩ := HCe.out _ hSw; go_simp⟩) hHeld ?_
              try simp only [Act.put]
              try simp only [List.getElem_toArray]
              try simp only [List.getElem_cons_succ]
              try simp only [List.getElem_cons_zero]
              try simp only [List.setIfInBounds_toArray]
              try simp only [List.set_cons_succ, List.set_cons_zero]
              refine wpAnyH_take (i := 22) (v := .slice (some ⟨G, 0, none⟩) L.length L.length) rfl (by kernel_rfl) (by kernel_rfl) (by kernel_rfl) (fun _ _ _ h => h) (Or.inl ⟨by kernel_rfl, fun w1 hSw => by clear hHeld; obtain ⟨⟨k0, k1, k2, k3, k4, k5, k6, k7⟩, j0, j1, j2, j3, j4, j5, j6, j7⟩ := HCe.out _ hSw; go_simp⟩) hHeld ?_
              try simp only [Act.put]
              try simp only [List.getElem_toArray]
              try simp only [List.getElem_cons_succ]
              try simp only [List.getElem_cons_zero]
              try simp only [List.setIfInBounds_toArray]
              try simp only [List.set_cons_succ, List.set_cons_zero]
              refine wpAnyH_take (i := 23) (v := .int .i64 (k : Int)) rfl (by kernel_rfl) (by kernel_rfl) (by kernel_rfl) (fun _ _ _ h => h) (Or.inl ⟨by kernel_rfl, fun w1 hSw => by clear hHeld; obtain ⟨⟨k0, k1, k2, k3, k4, k5, k6, k7⟩, j0, j1, j2, j3, j4, j5, j6, j7⟩ := HCe.out _ hSw; go_simp⟩) hHeld ?_
              try simp only [Act.put]
              try simp only [List.getElem_toArray]
              try simp only [List.getElem_cons_succ]
              try simp only [List.getElem_cons_zero]
              try simp only [List.setIfInBounds_toArray]
              try simp only [List.set_cons_succ, List.set_cons_zero]
              refine wpAnyH_take (i := 24) (v := .pointer (some ⟨G, k * 8, none⟩)) rfl (by kernel_rfl) (by kernel_rfl) (by kernel_rfl) (fun _ _ _ h => h) (Or.inl ⟨by kernel_rfl, fun w1 hSw => by clear hHeld; obtain ⟨⟨k0, k1, k2, k3, k4, k5, k6, k7⟩, j0, j1, j2, j3, j4, j5, j6, j7⟩ := HCe.out _ hSw; go_simp⟩) hHeld ?_
              try simp only [Act.put]
              try simp only [List.getElem_toArray]
              try simp only [List.getElem_cons_succ]
              try simp only [List.getElem_cons_zero]
              try simp only [List.setIfInBounds_toArray]
              try simp only [List.set_cons_succ, List.set_cons_zero]
              refine wpAnyH_take (i := 25) (v := .pointer (some ⟨G, k * 8 + 2, none⟩)) rfl (by kernel_rfl) (by kernel_rfl) (by kernel_rfl) (fun _ _ _ h => h) (Or.inl ⟨by kernel_rfl, fun w1 hSw => by clear hHeld; obtain ⟨⟨k0, k1, k2, k3, k4, k5, k6, k7⟩, j0, j1, j2, j3, j4, j5, j6, j7⟩ := HCe.out _ hSw; go_simp⟩) hHeld ?_
              try simp only [Act.put]
              try simp only [List.getElem_toArray]
              try simp only [List.getElem_cons_succ]
              try simp only [List.getElem_cons_zero]
              try simp only [List.setIfInBounds_toArray]
              try simp only [List.set_cons_succ, List.set_cons_zero]
              refine wpAnyH_take (i := 26) (v := .int .i64 r.att) rfl (by kernel_rfl) (by kernel_rfl) (by kernel_rfl) (fun _ _ _ h => h) (Or.inl ⟨by kernel_rfl, fun w1 hSw => by clear hHeld; obtain ⟨⟨k0, k1, k2, k3, k4, k5, k6, k7⟩, j0, j1, j2, j3, j4, j5, j6, j7⟩ := HCe.out _ hSw; go_simp⟩) hHeld ?_
              try simp only [Act.put]
              try simp only [List.getElem_toArray]
              try simp only [List.getElem_cons_succ]
              try simp only [List.getElem_cons_zero]
              try simp only [List.setIfInBounds_toArray]
              try simp only [List.set_cons_succ, List.set_cons_zero]
              refine wpAnyH_take (i := 27) (v := .bool false) rfl (by kernel_rfl) (by kernel_rfl) (by kernel_rfl) (fun _ _ _ h => h) (Or.inl ⟨by kernel_rfl, fun w1 hSw => by clear hHeld; obtain ⟨⟨k0, k1, k2, k3, k4, k5, k6, k7⟩, j0, j1, j2, j3, j4, j5, j6, j7⟩ := HCe.out _ hSw; go_simp⟩) hHeld ?_
              try simp only [Act.put]
              try simp only [List.getElem_toArray]
              try simp only [List.getElem_cons_succ]
              try simp only [List.getElem_cons_zero]
              try simp only [List.setIfInBounds_toArray]
              try simp only [List.set_cons_succ, List.set_cons_zero]
              refine wpAnyH_take (i := 28) (v := .bool false) rfl (by kernel_rfl) (by kernel_rfl) (by kernel_rfl) (fun _ _ _ h => h) (Or.inl ⟨by kernel_rfl, fun w1 hSw => by clear hHeld; obtain ⟨⟨k0, k1, k2, k3, k4, k5, k6, k7⟩, j0, j1, j2, j3, j4, j5, j6, j7⟩ := HCe.out _ hSw; go_simp⟩) hHeld ?_
              try simp only [Act.put]
              try simp only [List.getElem_toArray]
              try simp only [List.getElem_cons_succ]
              try simp only [List.getElem_cons_zero]
              try simp only [List.setIfInBounds_toArray]
              try simp only [List.set_cons_succ, List.set_cons_zero]
              refine wpAnyH_take (i := 29) (v := .bool false) rfl (by kernel_rfl) (by kernel_rfl) (by kernel_rfl) (fun _ _ _ h => h) (Or.inl ⟨by kernel_rfl, fun w1 hSw => by clear hHeld; obtain ⟨⟨k0, k1, k2, k3, k4, k5, k6, k7⟩, j0, j1, j2, j3, j4, j5, j6, j7⟩ := HCe.out _ hSw; go_simp⟩) hHeld ?_
              try simp only [Act.put]
              try simp only [List.getElem_toArray]
              try simp only [List.getElem_cons_succ]
              try simp only [List.getElem_cons_zero]
              try simp only [List.setIfInBounds_toArray]
              try simp only [List.set_cons_succ, List.set_cons_zero]
              refine wpAnyH_take (i := 30) (v := .slice (some ⟨G2, 0, none⟩) N.length N.length) rfl (by kernel_rfl) (by kernel_rfl) (by kernel_rfl) (fun _ _ _ h => h) (Or.inl ⟨by kernel_rfl, fun w1 hSw => by clear hHeld; obtain ⟨⟨k0, k1, k2, k3, k4, k5, k6, k7⟩, j0, j1, j2, j3, j4, j5, j6, j7⟩ := HCe.out _ hSw; go_simp⟩) hHeld ?_
              try simp only [Act.put]
              try simp only [List.getElem_toArray]
              try simp only [List.getElem_cons_succ]
              try simp only [List.getElem_cons_zero]
              try simp only [List.setIfInBounds_toArray]
              try simp only [List.set_cons_succ, List.set_cons_zero]
              refine wpAnyH_take (i := 31) (v := .int .i64 (k : Int)) rfl (by kernel_rfl) (by kernel_rfl) (by kernel_rfl) (fun _ _ _ h => h) (Or.inl ⟨by kernel_rfl, fun w1 hSw => by clear hHeld; obtain ⟨⟨k0, k1, k2, k3, k4, k5, k6, k7⟩, j0, j1, j2, j3, j4, j5, j6, j7⟩ := HCe.out _ hSw; go_simp⟩) hHeld ?_
              try simp only [Act.put]
              try simp only [List.getElem_toArray]
              try simp only [List.getElem_cons_succ]
              try simp only [List.getElem_cons_zero]
              try simp only [List.setIfInBounds_toArray]
              try simp only [List.set_cons_succ, List.set_cons_zero]
              refine wpAnyH_take (i := 32) (v := .pointer (some ⟨G2, k * 8, none⟩)) rfl (by kernel_rfl) (by kernel_rfl) (by kernel_rfl) (fun _ _ _ h => h) (Or.inl ⟨by kernel_rfl, fun w1 hSw => by clear hHeld; obtain ⟨⟨k0, k1, k2, k3, k4, k5, k6, k7⟩, j0, j1, j2, j3, j4, j5, j6, j7⟩ := HCe.out _ hSw; go_simp⟩) hHeld ?_
              try simp only [Act.put]
              try simp only [List.getElem_toArray]
              try simp only [List.getElem_cons_succ]
              try simp only [List.getElem_cons_zero]
              try simp only [List.setIfInBounds_toArray]
              try simp only [List.set_cons_succ, List.set_cons_zero]
              refine wpAnyH_take (i := 33) (v := .pointer (some ⟨G2, k * 8 + 3, none⟩)) rfl (by kernel_rfl) (by kernel_rfl) (by kernel_rfl) (fun _ _ _ h => h) (Or.inl ⟨by kernel_rfl, fun w1 hSw => by clear hHeld; obtain ⟨⟨k0, k1, k2, k3, k4, k5, k6, k7⟩, j0, j1, j2, j3, j4, j5, j6, j7⟩ := HCe.out _ hSw; go_simp⟩) hHeld ?_
              try simp only [Act.put]
              try simp only [List.getElem_toArray]
              try simp only [List.getElem_cons_succ]
              try simp only [List.getElem_cons_zero]
              try simp only [List.setIfInBounds_toArray]
              try simp only [List.set_cons_succ, List.set_cons_zero]
              refine wpAnyH_take (i := 34) (v := .int .i64 r2.bdg) rfl (by kernel_rfl) (by kernel_rfl) (by kernel_rfl) (fun _ _ _ h => h) (Or.inl ⟨by kernel_rfl, fun w1 hSw => by clear hHeld; obtain ⟨⟨k0, k1, k2, k3, k4, k5, k6, k7⟩, j0, j1, j2, j3, j4, j5, j6, j7⟩ := HCe.out _ hSw; go_simp⟩) hHeld ?_
              try simp only [Act.put]
              try simp only [List.getElem_toArray]
              try simp only [List.getElem_cons_succ]
              try simp only [List.getElem_cons_zero]
              try simp only [List.setIfInBounds_toArray]
              try simp only [List.set_cons_succ, List.set_cons_zero]
              refine wpAnyH_take (i := 35) (v := .slice (some ⟨G, 0, none⟩) L.length L.length) rfl (by kernel_rfl) (by kernel_rfl) (by kernel_rfl) (fun _ _ _ h => h) (Or.inl ⟨by kernel_rfl, fun w1 hSw => by clear hHeld; obtain ⟨⟨k0, k1, k2, k3, k4, k5, k6, k7⟩, j0, j1, j2, j3, j4, j5, j6, j7⟩ := HCe.out _ hSw; go_simp⟩) hHeld ?_
              try simp only [Act.put]
              try simp only [List.getElem_toArray]
              try simp only [List.getElem_cons_succ]
              try simp only [List.getElem_cons_zero]
              try simp only [List.setIfInBounds_toArray]
              try simp only [List.set_cons_succ, List.set_cons_zero]
              refine wpAnyH_take (i := 36) (v := .int .i64 (k : Int)) rfl (by kernel_rfl) (by kernel_rfl) (by kernel_rfl) (fun _ _ _ h => h) (Or.inl ⟨by kernel_rfl, fun w1 hSw => by clear hHeld; obtain ⟨⟨k0, k1, k2, k3, k4, k5, k6, k7⟩, j0, j1, j2, j3, j4, j5, j6, j7⟩ := HCe.out _ hSw; go_simp⟩) hHeld ?_
              try simp only [Act.put]
              try simp only [List.getElem_toArray]
              try simp only [List.getElem_cons_succ]
              try simp only [List.getElem_cons_zero]
              try simp only [List.setIfInBounds_toArray]
              try simp only [List.set_cons_succ, List.set_cons_zero]
              refine wpAnyH_take (i := 37) (v := .pointer (some ⟨G, k * 8, none⟩)) rfl (by kernel_rfl) (by kernel_rfl) (by kernel_rfl) (fun _ _ _ h => h) (Or.inl ⟨by kernel_rfl, fun w1 hSw => by clear hHeld; obtain ⟨⟨k0, k1, k2, k3, k4, k5, k6, k7⟩, j0, j1, j2, j3, j4, j5, j6, j7⟩ := HCe.out _ hSw; go_simp⟩) hHeld ?_
              try simp only [Act.put]
              try simp only [List.getElem_toArray]
              try simp only [List.getElem_cons_succ]
              try simp only [List.getElem_cons_zero]
              try simp only [List.setIfInBounds_toArray]
              try simp only [List.set_cons_succ, List.set_cons_zero]
              refine wpAnyH_take (i := 38) (v := .pointer (some ⟨G, k * 8 + 3, none⟩)) rfl (by kernel_rfl) (by kernel_rfl) (by kernel_rfl) (fun _ _ _ h => h) (Or.inl ⟨by kernel_rfl, fun w1 hSw => by clear hHeld; obtain ⟨⟨k0, k1, k2, k3, k4, k5, k6, k7⟩, j0, j1, j2, j3, j4, j5, j6, j7⟩ := HCe.out _ hSw; go_simp⟩) hHeld ?_
              try simp only [Act.put]
              try simp only [List.getElem_toArray]
              try simp only [List.getElem_cons_succ]
              try simp only [List.getElem_cons_zero]
              try simp only [List.setIfInBounds_toArray]
              try simp only [List.set_cons_succ, List.set_cons_zero]
              refine wpAnyH_take (i := 39) (v := .int .i64 r.bdg) rfl (by kernel_rfl) (by kernel_rfl) (by kernel_rfl) (fun _ _ _ h => h) (Or.inl ⟨by kernel_rfl, fun w1 hSw => by clear hHeld; obtain ⟨⟨k0, k1, k2, k3, k4, k5, k6, k7⟩, j0, j1, j2, j3, j4, j5, j6, j7⟩ := HCe.out _ hSw; go_simp⟩) hHeld ?_
              try simp only [Act.put]
              try simp only [List.getElem_toArray]
              try simp only [List.getElem_cons_succ]
              try simp only [List.getElem_cons_zero]
              try simp only [List.setIfInBounds_toArray]
              try simp only [List.set_cons_succ, List.set_cons_zero]
              refine wpAnyH_take (i := 40) (v := .bool false) rfl (by kernel_rfl) (by kernel_rfl) (by kernel_rfl) (fun _ _ _ h => h) (Or.inl ⟨by kernel_rfl, fun w1 hSw => by clear hHeld; obtain ⟨⟨k0, k1, k2, k3, k4, k5, k6, k7⟩, j0, j1, j2, j3, j4, j5, j6, j7⟩ := HCe.out _ hSw; go_simp⟩) hHeld ?_
              try simp only [Act.put]
              try simp only [List.getElem_toArray]
              try simp only [List.getElem_cons_succ]
              try simp only [List.getElem_cons_zero]
              try simp only [List.setIfInBounds_toArray]
              try simp only [List.set_cons_succ, List.set_cons_zero]
              refine wpAnyH_take (i := 41) (v := .bool false) rfl (by kernel_rfl) (by kernel_rfl) (by kernel_rfl) (fun _ _ _ h => h) (Or.inl ⟨by kernel_rfl, fun w1 hSw => by clear hHeld; obtain ⟨⟨k0, k1, k2, k3, k4, k5, k6, k7⟩, j0, j1, j2, j3, j4, j5, j6, j7⟩ := HCe.out _ hSw; go_simp⟩) hHeld ?_
              try simp only [Act.put]
              try simp only [List.getElem_toArray]
              try simp only [List.getElem_cons_succ]
              try simp only [List.getElem_cons_zero]
              try simp only [List.setIfInBounds_toArray]
              try simp only [List.set_cons_succ, List.set_cons_zero]
              refine wpAnyH_done (by kernel_rfl) ?_ _
              have HBf := hide hHeld
              clear hHeld
              go_wp2_with fail
              go_roundw
              case rel => exact ⟨k + 1, by omega, by go_num, hide ⟨HX.out.1.below HBf.out, HX.out.2.1.below HBf.out, HX.out.2.2.below HBf.out⟩⟩
              case measure => simp only [intOf]; omega
          · have hkI : ¬ (k : Int) < (L.length : Int) := by omega
            have HX5 : Hid (Qt w b v3 x N wr ∧ Rs wr (some ⟨G2, 0, none⟩) G2 0 N) := hide ⟨HX.out.1, HX.out.2.2⟩
            clear HX
            go_wp2_with fail
            refine (load_any HX5.out.2).mono ?_
            rintro e w6 (⟨h1, _⟩ | ⟨_, h1, _⟩ | ⟨b6, v6, h1, rfl, hq6, hB6⟩)
            · exact absurd ⟨HKN.out.m1, HKN.out.m8⟩ h1
            · exact absurd HKN.out.toROk h1
            have HX6 : Hid (Qt w b v3 x N w6 ∧ Rs w6 (some ⟨G2, 0, none⟩) G2 0 N) := hide ⟨HX5.out.1.below hB6, HX5.out.2.below hB6⟩
            have HA6 := hide hq6
            clear h1 hq6 hB6 HX5
            go_wp2_with fail
            refine (qrows_any HA6.out hl8).mono ?_
            rintro e w7 ⟨rfl, ho7, hB7⟩
            have HX7 : Hid (Qt w b v3 x N w7 ∧ Rs w7 (some ⟨G2, 0, none⟩) G2 0 N) := hide ⟨HX6.out.1.below hB7, HX6.out.2.below hB7⟩
            have HA7 := hide (HA6.out.below hB7)
            have HR7 := hide (Rs.own0 ho7)
            clear ho7 hB7 HX6 HA6
            go_wp2_with fail
            refine (same_self HR7.out HX7.out.2 (by omega)).mono ?_
            rintro e w8 ⟨rfl, hB8⟩
            have HX8 : Hid (Qt w b v3 x N w8 ∧ Rs w8 (some ⟨G2, 0, none⟩) G2 0 N) := hide ⟨HX7.out.1.below hB8, HX7.out.2.below hB8⟩
            have HA8 := hide (HA7.out.below hB8)
            clear hB8 HX7 HA7 HR7
            go_wp2_with fail
            refine (qhead_any HA8.out hl8).mono ?_
            rintro e w9 ⟨rfl, hB9⟩
            have HX9 : Hid (Qt w b v3 x N w9 ∧ Rs w9 (some ⟨G2, 0, none⟩) G2 0 N) := hide ⟨HX8.out.1.below hB9, HX8.out.2.below hB9⟩
            clear hB9 HX8 HA8
            go_wp2_with fail
            refine (qhead_any HX9.out.1.q hl8).mono ?_
            rintro e w10 ⟨rfl, hB10⟩
            have HX10 : Hid (Qt w b v3 x N w10 ∧ Rs w10 (some ⟨G2, 0, none⟩) G2 0 N) := hide ⟨HX9.out.1.below hB10, HX9.out.2.below hB10⟩
            clear hB10 HX9
            have bh : (hd N != hd N) = false := by simp
            generalize hd N = hh at *
            go_wp2_with fail
            go_roundw
            case rel => exact ⟨i + 1, G2, v3, N, _, by omega, rfl, rfl, by go_num, hn, hvG2, HKN, HX10⟩
            case measure => simp only [intOf]; omega
    · have hii : ¬ (i : Int) < (Q.length : Int) := by omega
      have HB := hide HQ.out.1.bel
      clear HQ HK
      go_wp2_with fail
      refine (fixed_any _).mono ?_
      rintro e w6 ⟨rfl, hB6⟩
      go_wp2_with fail
      go_ret
      exact ⟨rfl, HB.out.trans (hB6.mono HB.out.size)⟩
end Go.Proofs.Ythnmjjlbocofbaa
