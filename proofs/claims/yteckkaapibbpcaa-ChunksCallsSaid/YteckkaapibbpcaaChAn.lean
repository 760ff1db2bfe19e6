import Derived.Test.YteckkaapibbpcaaChWi
import Derived.Deep.OwnRows
import Derived.Deep.DeepCutAuto
namespace Go.Proofs.Yteckkaapibbpcaa
open Go.RowKit

/-- a row of marks -/
def Bl (w : World) (g : Nat) (B : List Bool) : Prop := w.heap[g]? = some (.cells (B.map Value.bool).toArray 4 (0, 0))
theorem Bl.lt {w : World} {g : Nat} {B : List Bool} (h : Bl w g B) : g < w.heap.size := lt_of_block h
theorem Bl.cell {w : World} {g : Nat} {B : List Bool} (h : Bl w g B) {k : Nat} {v : Bool} (hk : B[k]? = some v) : w.cell? ⟨g, k, none⟩ = some (.bool v) := by
  rw [cell_of_row w g k _ _ _ h]
  simp [hk]
theorem Bl.z {w : World} {g : Nat} {B : List Bool} (h : Bl w g B) (k : Nat) : w.frozen? ⟨g, k, none⟩ = false := by unfold Bl at h; simp [World.frozen?, h]
theorem Bl.set {w : World} {g : Nat} {B : List Bool} (h : Bl w g B) (k : Nat) : Bl (w.setCell ⟨g, k, none⟩ (.bool true)) g (B.set k true) := by
  have h1 := heap_set_self w g k (.bool true) _ _ _ h
  unfold Bl
  rw [h1, List.map_set]
  congr 2
  apply Array.ext'
  simp
theorem Bl.on {w w' : World} {g b : Nat} {B : List Bool} (h : Bl w g B) (ho : On b w w') (hn : g ≠ b) : Bl w' g B := (ho.block g h.lt hn).trans h
theorem Bl.drewN {w : World} {g : Nat} {B : List Bool} (h : Bl w g B) (n : Nat) : Bl (w.drewN n) g B := h
theorem made_bools (n : Nat) : madeCells #[Value.bool false] n = ((List.replicate n false).map Value.bool).toArray := by
  unfold madeCells
  apply Array.ext
  · simp
  · intro i h1 h2
    simp [Nat.mod_one]
theorem bools_rep (n : Nat) : ((List.replicate n false).map Value.bool).toArray = Array.replicate n (Value.bool false) := by simp
theorem Cw.setG {w0 w : World} {b : Nat} {s : Sn} {g : Nat} {B : List Bool} (h : Cw w0 none b s w) (hg : Bl w g B) (hlo : w0.heap.size ≤ g) (j : Nat) (v : Value) : Cw w0 none b s (w.setCell ⟨g, j, none⟩ v) := by
  obtain ⟨ad, cap, X, o, hs, hx⟩ := h.sb
  have hb : b ≠ g := blk_ne hs.cb hg (by decide)
  refine ⟨h.ok, h.low, ⟨h.bel.os, h.bel.tape, h.bel.output, by rw [setCell_size]; exact h.bel.size, fun k hk => (Below.heap_setCell _ ⟨g, j, none⟩ _ k (by show k ≠ g; omega)).trans (h.bel.block k hk)⟩, ⟨ad, cap, X, o, ⟨(Below.heap_setCell _ ⟨g, j, none⟩ _ b hb).trans hs.cb, hs.rs.keep fun h0 => ?_⟩, hx⟩, fun p hp => by cases hp⟩
  obtain ⟨cur, hc, _⟩ := hs.rs.blk h0
  exact Below.heap_setCell _ ⟨g, j, none⟩ _ X (blk_ne hc hg (by decide))
theorem Bl.ne {w0 w : World} {b : Nat} {s : Sn} {g : Nat} {P : Option Nat} {B : List Bool} (h : Cw w0 P b s w) (hg : Bl w g B) : g ≠ b := by
  obtain ⟨ad, cap, X, o, hs, hx⟩ := h.sb
  exact blk_ne hg hs.cb (by decide)
/-- items stay where marks are set -/
theorem own_setG {w : World} {base g gi ci n : Nat} {xs : List Value} {B : List Bool} (h : w.ownsRow base 46 2 (.slice (some ⟨gi, 0, none⟩) n ci) n xs) (hg : Bl w g B) (j : Nat) (v : Value) : (w.setCell ⟨g, j, none⟩ v).ownsRow base 46 2 (.slice (some ⟨gi, 0, none⟩) n ci) n xs := by
  refine own_keep h fun k hk => Below.heap_setCell _ ⟨g, j, none⟩ _ k ?_
  rcases h.2 with ⟨h1, _⟩ | ⟨g2, c2, cur, h1, _, hg2, _⟩
  · cases h1
  · have : k = g2 := by
      have e : (Value.slice (some ⟨gi, 0, none⟩) n ci).ownBlock = some gi := rfl
      rw [e] at hk
      injection hk with hk
      injection h1 with h1
      injection h1 with h1
      injection h1 with h1
      omega
    subst this
    exact blk_ne hg2 hg (by decide)
theorem Sn.tick_we (s : Sn) : s.tick.we = s.we := rfl
theorem Sn.due_we (s : Sn) : s.due.we = s.we := by unfold Sn.we Sn.len; rw [Sn.due_go, Sn.due_wd, Sn.due_R]
/-- all that stands at a turn's head -/
structure An (w0 : World) (b g : Nat) (c G M : Nat) (t : Nat) (s : Sn) (B : List Bool) (w : World) : Prop where
  cw : Cw w0 none b s w
  bl : Bl w g B
  lo : w0.heap.size ≤ g
  len : B.length = M
  go : s.go = G
  we : s.we = G + M
  ti : (∀ k, k < M → B[k]? = some true) ∨ (s.ti + t ≤ c ∧ (0 < t → 0 < s.ti))
/-- the marks, when k items are marked -/
structure Mk (B B' : List Bool) (f k : Nat) : Prop where
  len : B'.length = B.length
  old : ∀ j : Nat, B[j]? = some true → B'[j]? = some true
  new : ∀ j, j < k → B'[f + j]? = some true
theorem Mk.nil (B : List Bool) (f : Nat) : Mk B B f 0 := ⟨rfl, fun _ h => h, fun j h => absurd h (by omega)⟩
theorem Mk.step {B B' : List Bool} {f k : Nat} (h : Mk B B' f k) (hl : f + k < B.length) : Mk B (B'.set (f + k) true) f (k + 1) := by
  have h1 := h.len
  refine ⟨by rw [List.length_set]; exact h.len, fun j hj => ?_, fun j hj => ?_⟩
  · rw [List.getElem?_set]
    split
    · rw [if_pos (by omega)]
    · exact h.old j hj
  · rw [List.getElem?_set]
    split
    · rw [if_pos (by omega)]
    · exact h.new j (by omega)
theorem an_step {M G c t : Nat} {s : Sn} {B B' : List Bool} (hgo : s.go = G) (hwe : s.we = G + M) (hti : (∀ k, k < M → B[k]? = some true) ∨ (s.ti + t ≤ c ∧ (0 < t → 0 < s.ti))) (hm : Mk B B' (s.tick.from_ - G) s.tick.its.length) :
    (∀ k, k < M → B'[k]? = some true) ∨ (s.tick.due.ti + (t + 1) ≤ c ∧ (0 < t + 1 → 0 < s.tick.due.ti)) := by
  rcases hti with h1 | ⟨h1, h2⟩
  · exact .inl fun k h => hm.old k (h1 k h)
  · by_cases h0 : s.tick.ti = 0
    · left
      have hf : s.tick.from_ = G := by unfold Sn.from_; rw [if_pos h0]; exact hgo
      intro k h
      have h3 := hm.new k (by rw [Sn.its_len, hf, Sn.tick_we, hwe]; omega)
      rw [hf, Nat.sub_self, Nat.zero_add] at h3
      exact h3
    · right
      have h3 : s.tick.due.ti = s.tick.ti := by
        unfold Sn.due
        by_cases hw : s.tick.we ≤ s.tick.from_
        · rw [if_pos hw]
        · rw [if_neg hw]
          show (if s.tick.ti = 0 then s.tick.rs else s.tick.ti) = s.tick.ti
          rw [if_neg h0]
      have h4 : s.tick.ti = s.ti - 1 := rfl
      omega
theorem Try.infoBo : (Try.prog.info? 4).map (fun i => (i.zero, i.size, i.bytes)) = some (some (.bool false), 1, 1) := by kernel_rfl
set_option maxHeartbeats 16000000 in
set_option maxRecDepth 8000 in
theorem chunksAnew_walk {w : World} {x : Int} (hx : -9223372036854775808 ≤ x ∧ x ≤ 9223372036854775807) {y : Int} (hy : -9223372036854775808 ≤ y ∧ y ≤ 9223372036854775807) {ad : Option Addr} {ab ao cap : Nat} {Q : List Oc} (hQ : Sr Oc.cs 4 w ad ab ao Q) (hQl : Q.length ≤ 3518437208780) (hQb : ∀ i (h : i < Q.length), I6 (Q[i]).on ∧ I6 (Q[i]).n) :
    Calls Try.prog 5 #[.int .i64 x, .int .i64 y, .slice ad Q.length cap] w fun e w' => e = .returned (.bool true) ∧ Below w.heap.size w w' := by
  have HQ := hide hQ
  have HQB := hide hQb
  have HN := hide (cnew w hx hy)
  clear hQ hQb hx hy
  go_enter Try.func5, Try.ntmps5
  go_wp2_with fail
  refine HN.out.mono ?_
  rintro e w1 (⟨h, rfl, hw⟩ | ⟨h, rfl, hC1⟩)
  · subst hw
    clear HN
    go_wp2_with fail
    refine (awake_any _).mono ?_
    rintro e w2 ⟨rfl, hB2⟩
    go_wp2_with fail
    go_ret
    exact ⟨rfl, hB2⟩
  obtain ⟨h1, h2, h3, h4⟩ := h
  obtain ⟨a, rfl⟩ : ∃ a : Nat, x = (a : Int) := ⟨x.toNat, by omega⟩
  obtain ⟨c, rfl⟩ : ∃ c : Nat, y = (c : Int) := ⟨y.toNat, by omega⟩
  rw [Int.toNat_natCast, Int.toNat_natCast] at hC1
  obtain ⟨bb, hbb⟩ : ∃ bb, w.heap.size = bb := ⟨_, rfl⟩
  rw [show Value.pointer (some ⟨w.heap.size, 0, none⟩) = Value.pointer (some ⟨bb, 0, none⟩) by rw [hbb]]
  rw [hbb] at hC1
  have HC := hide hC1
  clear HN hbb hC1
  go_wp2_with fail
  refine (awake_any _).mono ?_
  rintro e w2 ⟨rfl, hB2⟩
  have HC := hide (HC.out.below hB2)
  clear hB2
  have a1 : ¬ a < 1 := by omega
  have c1 : ¬ c < 1 := by omega
  have a8 : a ≤ 8 := by omega
  have c16 : ¬ 16 < c := by omega
  have a1d : decide ((a : Int) < 1) = false := decide_eq_false (by omega)
  have c1d : decide ((c : Int) < 1) = false := decide_eq_false (by omega)
  have c6d : decide (16 < (c : Int)) = false := decide_eq_false (by omega)
  have HR : Hid ((newS a c).wd = a ∧ (newS a c).rs = c) := hide ⟨rfl, rfl⟩
  generalize newS a c = s0 at *
  clear h1 h2 h3 h4
  go_wp2_with fail
  clear a1d c1d c6d
  go_loopw [9] (fun t wr => ∃ (i : Nat) (s : Sn), i ≤ Q.length ∧ t = .int .i64 (i : Int) ∧ Hid (Cw w none bb s wr) ∧ Hid (s.wd = a ∧ s.rs = c)) (fun t _ => Q.length - (intOf t).toNat)
  case atStart => exact ⟨0, s0, Nat.zero_le _, rfl, HC, HR⟩
  case round =>
    clear HC HR
    obtain ⟨i, s, hi, rfl, HC, HR⟩ := hrel
    by_cases hiq : i < Q.length
    · have hii : (i : Int) < (Q.length : Int) := by omega
      have hat := HQ.out.at_ (by omega)
      subst hat
      obtain ⟨q0, q1, q2, q3⟩ := (HQ.out.below (by decide) Oc.cs0 HC.out.bel).four hiq
      have hlt := (HQ.out.below (by decide) Oc.cs0 HC.out.bel).lt (by omega) (by decide) Oc.cs0
      have HBO := hide (HQB.out i hiq)
      generalize Q[i] = q at *
      by_cases hk1 : q.k = 1
      · have e1 : (q.k == 1) = true := by simpa using hk1
        clear hk1
        go_wp2_with fail
        refine (cput HC.out q.tx).mono ?_
        rintro e w5 ⟨rfl, hp⟩
        have HC := hide hp.1
        have HR : Hid ((s.put q.tx).wd = a ∧ (s.put q.tx).rs = c) := hide (by unfold Sn.put; split <;> exact HR.out)
        generalize s.put q.tx = r at *
        generalize s.putE q.tx = er at *
        clear hp q0 q1 q2 q3 hlt
        go_wp2_with fail
        go_roundw
        case rel => exact ⟨i + 1, r, by omega, by go_num, HC, HR⟩
        case measure => simp only [intOf]; omega
      by_cases hk2 : q.k = 2
      · have e1 : (q.k == 1) = false := by simpa using hk1
        have e2 : (q.k == 2) = true := by simpa using hk2
        clear hk1 hk2
        go_wp2_with fail
        refine (ctick HC.out).mono ?_
        rintro e w5 ⟨rfl, hp, _⟩
        have HC := hide hp.1
        clear hp q0 q1 q2 q3 hlt
        go_wp2_with fail
        go_roundw
        case rel => exact ⟨i + 1, s.tick, by omega, by go_num, HC, HR⟩
        case measure => simp only [intOf]; omega
      by_cases hk3 : q.k = 3
      · have e1 : (q.k == 1) = false := by simpa using hk1
        have e2 : (q.k == 2) = false := by simpa using hk2
        have e3 : (q.k == 3) = true := by simpa using hk3
        clear hk1 hk2 hk3
        go_wp2_with fail
        refine (cdue HC.out).mono ?_
        rintro e w5 ⟨u, rfl, _, hp, _⟩
        have HC := hide hp.1
        have HR : Hid (s.due.wd = a ∧ s.due.rs = c) := hide (by rw [Sn.due_wd, Sn.due_rs]; exact HR.out)
        generalize s.due = r at *
        clear hp q0 q1 q2 q3 hlt
        go_wp2_with fail
        go_roundw
        case rel => exact ⟨i + 1, r, by omega, by go_num, HC, HR⟩
        case measure => simp only [intOf]; omega
      have e1 : (q.k == 1) = false := by simpa using hk1
      have e2 : (q.k == 2) = false := by simpa using hk2
      have e3 : (q.k == 3) = false := by simpa using hk3
      clear hk1 hk2 hk3
      go_wp2_with fail
      refine (cack HC.out q.n HBO.out.2).mono ?_
      rintro e w5 ⟨rfl, hp, _⟩
      have HC := hide hp.1
      have HR : Hid ((s.ack q.n).wd = a ∧ (s.ack q.n).rs = c) := hide (by rw [Sn.ack_wd, Sn.ack_rs]; exact HR.out)
      generalize s.ack q.n = r at *
      clear hp q0 q1 q2 q3 hlt
      go_wp2_with fail
      go_roundw
      case rel => exact ⟨i + 1, r, by omega, by go_num, HC, HR⟩
      case measure => simp only [intOf]; omega
    · have hii : ¬ (i : Int) < (Q.length : Int) := by omega
      clear hi hiq HQ HQB
      obtain ⟨M, hM⟩ : ∃ M, min a s.R.length = M := ⟨_, rfl⟩
      have HWe : Hid (s.we = s.go + M) := hide (by unfold Sn.we Sn.len; have := HR.out.1; omega)
      have M8 : M ≤ 8 := by omega
      have hd : (s.len : Int) - (s.go : Int) = (s.R.length : Int) := by unfold Sn.len; omega
      have h32 : s.R.length ≤ 32 := by have := HC.out.ok.l; omega
      have HMk : Hid (∀ w', (Instr.makeSlice 49 (.int .i64 (M : Int)) (.int .i64 (M : Int))).run Try.prog w' = .ok (.slice (some ⟨w'.heap.size, 0, none⟩) M M) (w'.alloc (.cells (Array.replicate M (Value.bool false)) 4))) := hide fun w' => by
        have := run_make_row' (P := Try.prog) 49 4 (.bool false) 1 Try.underlying49 Try.infoBo rfl .i64 .i64 M (by omega) (by omega) w'
        rw [made_bools, bools_rep] at this
        exact this
      go_upto_region 19 with fail
      go_cut [10] (fun u10 wc => u10 = .int .i64 (M : Int) ∧ Hid (Cw w none bb s wc))
      case first =>
        by_cases hlt : s.R.length < a
        · have hMe : M = s.R.length := by omega
          by_cases h0 : s.R.length = 0
          · rw [h0] at hd hlt hMe
            subst hMe
            rw [show ((0 : Nat) : Int) = 0 from rfl] at hd
            have hl2 : decide ((0 : Int) < (a : Int)) = true := by simpa using hlt
            go_wp2_with fail
            refine (clen HC.out).mono ?_
            rintro e w3 ⟨rfl, m3, hw3⟩
            have HC3 := hide (HC.out.drewN m3)
            rw [← hw3] at HC3
            clear hw3
            go_wp2_with fail
            refine (cacked HC3.out).mono ?_
            rintro e w4 ⟨rfl, rfl⟩
            go_wp2_with fail
            go_meet
            case rel => exact ⟨rfl, HC3⟩
          · have hp : 0 < s.R.length := by omega
            have HMe := hide hMe
            clear hMe hM
            go_wp2_with fail
            refine (clen HC.out).mono ?_
            rintro e w3 ⟨rfl, m3, hw3⟩
            have HC3 := hide (HC.out.drewN m3)
            rw [← hw3] at HC3
            clear hw3
            go_wp2_with fail
            refine (cacked HC3.out).mono ?_
            rintro e w4 ⟨rfl, rfl⟩
            go_wp2_with fail
            go_meet
            case rel => exact ⟨by rw [HMe.out], HC3⟩
        · have hMe : M = a := by omega
          have hp : 0 < a := by omega
          have HMe := hide hMe
          have HM := hide hM
          clear hMe hM
          skip
          go_wp2_with fail
          refine (clen HC.out).mono ?_
          rintro e w3 ⟨rfl, m3, hw3⟩
          have HC3 := hide (HC.out.drewN m3)
          rw [← hw3] at HC3
          clear hw3
          go_wp2_with fail
          refine (cacked HC3.out).mono ?_
          rintro e w4 ⟨rfl, rfl⟩
          go_wp2_with fail
          go_meet
          case rel => exact ⟨by rw [HMe.out], HC3⟩
      case rest =>
        obtain ⟨rfl, HC4⟩ := hcut
        clear HC hd h32 hM
        have hmk := HMk.out wc
        have HA : Hid (An w bb wc.heap.size c s.go M 0 s (List.replicate M false) (wc.alloc (.cells (Array.replicate M (Value.bool false)) 4))) := hide ⟨HC4.out.below (below_alloc wc _), (by unfold Bl; rw [bools_rep]; exact heap_alloc_new wc _), HC4.out.bel.size, by simp, rfl, HWe.out, .inr ⟨by have := HC4.out.ok.t; have := HR.out.2; omega, fun h => absurd h (by omega)⟩⟩
        obtain ⟨g, hg⟩ : ∃ g, wc.heap.size = g := ⟨_, rfl⟩
        rw [hg] at hmk HA
        have HG := hide hg
        clear hg HMk
        go_wp2_with fail
        clear hmk
        generalize wc.alloc (.cells (Array.replicate M (Value.bool false)) 4) = wd at *
        obtain ⟨G, hG⟩ : ∃ G, s.go = G := ⟨_, rfl⟩
        rw [hG] at HA
        clear hG HC4 HWe HR HG
        go_loopw [12, 13, 14, 15] (fun t _ _ _ wr => ∃ (k : Nat) (s : Sn) (B : List Bool), k ≤ c ∧ t = .int .i64 (k : Int) ∧ Hid (An w bb g c G M k s B wr)) (fun t _ _ _ _ => c - (intOf t).toNat)
        case atStart => exact ⟨0, s, _, Nat.zero_le _, rfl, HA⟩
        case round =>
          clear HA
          obtain ⟨k, s, B, hk, rfl, HA⟩ := hrel
          by_cases hkc : k < c
          · have hkI : (k : Int) < (c : Int) := by omega
            go_wp2_with fail
            refine (ctick HA.out.cw).mono ?_
            rintro e w5 ⟨rfl, hp5, ho5⟩
            have HC5 := hide hp5.1
            have HB5 := hide (HA.out.bl.on ho5 (HA.out.bl.ne HA.out.cw))
            clear hp5 ho5
            go_wp2_with fail
            refine (cdue HC5.out).mono ?_
            rintro e w6 ⟨u, rfl, hown, hp6, ho6⟩
            have HC6 := hide hp6.1
            have HB6 := hide (HB5.out.on ho6 (HB5.out.ne HC5.out))
            have HF : Hid (∀ j (hl : j < s.tick.its.length), (s.tick.its[j]).1 = s.tick.from_ + j ∧ G ≤ s.tick.from_ ∧ s.tick.from_ + j < G + M) := hide fun j hl => by
              have hl' := hl
              rw [Sn.its_len, Sn.tick_we, HA.out.we] at hl'
              have h1 := Sn.from_lo HC5.out.ok
              have h2 : s.tick.go = G := HA.out.go
              rw [Sn.its_get]
              exact ⟨rfl, by omega, by omega⟩
            have hi32 : s.tick.its.length ≤ 32 := by rw [Sn.its_len]; have h1 := Sn.we_hi s.tick; have h2 := HC5.out.ok.l; omega
            have HGo : Hid (s.tick.due.go = G) := hide (by rw [Sn.due_go]; exact HA.out.go)
            have HSt : Hid (∀ B', Mk B B' (s.tick.from_ - G) s.tick.its.length → (∀ j, j < M → B'[j]? = some true) ∨ (s.tick.due.ti + (k + 1) ≤ c ∧ (0 < k + 1 → 0 < s.tick.due.ti))) := hide fun B' hm => an_step HA.out.go HA.out.we HA.out.ti hm
            have HWe2 : Hid (s.tick.due.we = G + M) := hide (by rw [Sn.due_we, Sn.tick_we]; exact HA.out.we)
            have HLo := hide HA.out.lo
            have HLn := hide HA.out.len
            obtain ⟨adu, capu, rfl⟩ := own_slice hown
            have HO := hide hown
            clear hp6 ho6 hown HC5 HB5 HA
            generalize s.tick.due = r at *
            generalize s.tick.its = D at *
            generalize s.tick.from_ = fr at *
            obtain ⟨z5, hz5⟩ : ∃ z5, w5.heap.size = z5 := ⟨_, rfl⟩
            rw [hz5] at HO
            clear hz5
            go_wp2_with fail
            go_loopw [14, 15] (fun t _ wx => ∃ (j : Nat) (B' : List Bool), t = .int .i64 (j : Int) ∧ j ≤ D.length ∧ Hid (Cw w none bb r wx) ∧ Hid (Bl wx g B') ∧ Hid (Mk B B' (fr - G) j) ∧ Hid (wx.ownsRow z5 46 2 (.slice adu D.length capu) D.length (ics D))) (fun t _ _ => D.length - (intOf t).toNat)
            case atStart => exact ⟨0, B, rfl, Nat.zero_le _, HC6, HB6, Mk.nil _ _, HO⟩
            case round =>
              clear HC6 HB6 HO
              obtain ⟨j, B', rfl, hj, HC, HB, HM, HO⟩ := hrel
              by_cases hjl : j < D.length
              · have hjI : (j : Int) < (D.length : Int) := by omega
                obtain ⟨gi, cg, cur, hv, _, _, _, _, _⟩ := own_form HO.out (by omega)
                injection hv with hv1 hv2 hv3
                subst hv1; subst hv3
                clear hv2
                obtain ⟨p1, p2, p3⟩ := HF.out j hjl
                obtain ⟨x0, x1⟩ := it_cell HO.out hjl
                rw [p1] at x0
                obtain ⟨n, hn⟩ : ∃ n, fr - G + j = n := ⟨_, rfl⟩
                have hfn : ((fr + j : Nat) : Int) - (G : Int) = (n : Int) := by omega
                have hnM : n < M := by omega
                have hl1 := HM.out.len
                have hl2 := HLn.out
                obtain ⟨v, hv⟩ : ∃ v, B'[n]? = some v := ⟨_, List.getElem?_eq_getElem (by omega)⟩
                have b0 := HB.out.cell hv
                have bz := HB.out.z n
                have HAk : Hid (∀ n, Calls Try.prog 16 #[.pointer (some ⟨bb, 0, none⟩)] (wr.drewN n) fun e w' => e = .returned (.int .i64 (G : Int)) ∧ w' = wr.drewN n) := hide fun n => by have := cacked (HC.out.drewN n); rw [HGo.out] at this; exact this
                have HB2 := hide (HB.out.set n)
                have HC2 := hide (HC.out.setG HB.out HLo.out n (.bool true))
                have HO2 := hide (own_setG HO.out HB.out n (.bool true))
                have HM2 : Hid (Mk B (B'.set n true) (fr - G) (j + 1)) := hide (by rw [← hn]; exact HM.out.step (by omega))
                have hgl := HB.out.lt
                have f1 : decide ((n : Int) < 0) = false := by simp
                have f2 : ¬ M ≤ n := by omega
                obtain ⟨fj, hfj⟩ : ∃ fj, fr + j = fj := ⟨_, rfl⟩
                rw [hfj] at x0 hfn
                clear hv hn hl1 hl2 p1 p2 p3 x1 hfj
                go_wp2_with fail
                go_quiet ((go_at_call 16; exact Calls.quiet_of_same (HAk.out _)))
                go_wp2_with fail
                go_roundw
                case rel => exact ⟨j + 1, _, by go_num, by omega, hide (HC2.out.drewN nq), hide (HB2.out.drewN nq), HM2, hide (own_keep HO2.out fun _ _ => rfl)⟩
                case measure => simp only [intOf]; omega
              · have hjI : ¬ (j : Int) < (D.length : Int) := by omega
                have hjD : j = D.length := by omega
                have HA2 : Hid (An w bb g c G M (k + 1) r B' wr) := hide ⟨HC.out, HB.out, HLo.out, by rw [HM.out.len, HLn.out], HGo.out, HWe2.out, HSt.out B' (by rw [← hjD]; exact HM.out)⟩
                clear hjD hjl hj
                go_wp2_with fail
                go_roundw
                case rel => exact ⟨k + 1, r, B', by omega, by go_num, HA2⟩
                case measure => simp only [intOf]; omega
          · have hkI : ¬ (k : Int) < (c : Int) := by omega
            have HAll : Hid (∀ j, j < M → B[j]? = some true) := hide (by
              rcases HA.out.ti with h1 | ⟨h1, h2⟩
              · exact h1
              · exfalso; have := h2 (by omega); omega)
            go_wp2_with fail
            go_loopw [16] (fun t wx => ∃ j : Nat, t = .int .i64 (j : Int) ∧ j ≤ M ∧ wx = wr) (fun t _ => M - (intOf t).toNat)
            case atStart => exact ⟨0, rfl, Nat.zero_le _, rfl⟩
            case round =>
              rename_i wr0 _ _
              obtain ⟨j, rfl, hj, hw⟩ := hrel
              subst hw
              by_cases hjM : j < M
              · have b0 := HA.out.bl.cell (HAll.out j hjM)
                have hgl := HA.out.bl.lt
                go_wp2_with fail
                go_roundw
                case rel => exact ⟨j + 1, by go_num, by omega, by trivial⟩
                case measure => simp only [intOf]; omega
              · go_wp2_with fail
                go_ret
                exact ⟨rfl, HA.out.cw.bel⟩
end Go.Proofs.Yteckkaapibbpcaa
