import Derived.Test.YtjfgmdiafhkbgaaAuK
namespace Go.Proofs.Ytjfgmdiafhkbgaa
open Go.RowKit Go.MapKept
set_option maxRecDepth 8000

section
variable {w w' : World} {B b : Nat} {h : Hs} {s : Hi} {i : Nat}
/-- the greatest badge is set -/
theorem Hm.setTop (H : Hm w B b h s) (t : Int) : Hm (w.setCell ⟨b, 1, none⟩ (.int .i64 t)) B b { h with top := t } s ∧ Kt B w (w.setCell ⟨b, 1, none⟩ (.int .i64 t)) :=
  H.setb 1 (by decide) _ { h with top := t } ⟨rfl, rfl, rfl, rfl, rfl⟩ (fun i hi => by rcases lt26 hi with rfl|rfl|rfl|rfl|rfl|rfl|rfl|rfl|rfl|rfl|rfl|rfl|rfl|rfl|rfl|rfl|rfl|rfl|rfl|rfl|rfl|rfl|rfl|rfl|rfl|rfl <;> rfl)
theorem Hm.setUp (H : Hm w B b h s) (t : Int) : Hm (w.setCell ⟨b, 25, none⟩ (.int .i64 t)) B b { h with up := t } s ∧ Kt B w (w.setCell ⟨b, 25, none⟩ (.int .i64 t)) :=
  H.setb 25 (by decide) _ { h with up := t } ⟨rfl, rfl, rfl, rfl, rfl⟩ (fun i hi => by rcases lt26 hi with rfl|rfl|rfl|rfl|rfl|rfl|rfl|rfl|rfl|rfl|rfl|rfl|rfl|rfl|rfl|rfl|rfl|rfl|rfl|rfl|rfl|rfl|rfl|rfl|rfl|rfl <;> rfl)
theorem Hm.setSh (H : Hm w B b h s) (t : Bool) : Hm (w.setCell ⟨b, 24, none⟩ (.bool t)) B b { h with sh := t } s ∧ Kt B w (w.setCell ⟨b, 24, none⟩ (.bool t)) :=
  H.setb 24 (by decide) _ { h with sh := t } ⟨rfl, rfl, rfl, rfl, rfl⟩ (fun i hi => by rcases lt26 hi with rfl|rfl|rfl|rfl|rfl|rfl|rfl|rfl|rfl|rfl|rfl|rfl|rfl|rfl|rfl|rfl|rfl|rfl|rfl|rfl|rfl|rfl|rfl|rfl|rfl|rfl <;> rfl)
set_option maxHeartbeats 2000000 in
theorem granted_any (H : Hm w B b h s) (hi8 : i < 8) (ek eo en el : Int) (eb ei ec es er ew : Int) (ex : ByteArray) {et : List ByteArray} {q : Option Addr} {cq : Nat} :
    Calls Try.prog 33 #[.pointer (some ⟨b, 0, none⟩), .agg #[.int .i64 ek, .int .i64 eo, .int .i64 en, .int .i64 el, .int .i64 ((i : Int) + 1), .int .i64 eb, .int .i64 ei, .int .i64 ec, .int .i64 es, .int .i64 er, .int .u64 ew, .string ex, .slice q et.length cq]] w fun r w' => r = .returned (.tuple #[]) ∧ (∃ s', Hm w' B b ({ (if knw h i = true then lt_ h i ⟨2, eb, 0, 0, []⟩ else h) with top := max h.top eb }) s') ∧ Kt B w w' := by
  have hBa := below_alloc w (.cells #[.int .i64 ek, .int .i64 eo, .int .i64 en, .int .i64 el, .int .i64 ((i : Int) + 1), .int .i64 eb, .int .i64 ei, .int .i64 ec, .int .i64 es, .int .i64 er, .int .u64 ew, .string ex, .slice q et.length cq] 43)
  have hbk := heap_alloc_new w (.cells #[.int .i64 ek, .int .i64 eo, .int .i64 en, .int .i64 el, .int .i64 ((i : Int) + 1), .int .i64 eb, .int .i64 ei, .int .i64 ec, .int .i64 es, .int .i64 er, .int .u64 ew, .string ex, .slice q et.length cq] 43)
  have H1 := H.below hBa
  have H0 := hide H
  have HH1 := hide H1
  have HBa := hide hBa
  have HBK := hide hbk
  have l8 := H.l8
  have i8 : (i : Int) < 8 := by omega
  have HN := hide (known_any H1 i)
  clear H H1 hBa hbk
  cases hn : knw h i with
  | false =>
    rw [hn] at HN
    rw [if_neg (by decide)]
    clear hn
    go_enter Try.func33, Try.ntmps33
    go_wp2_with fail
    refine HN.out.mono ?_
    rintro e w1 ⟨rfl, hb⟩
    have HB1 := hide hb
    have H2 := HH1.out.below hb
    have HH2 := hide H2
    have HK1 := hide (Kt.of_below (B := B) (below_of HBa.out hb))
    have ce := (hb.block _ (lt_of_block HBK.out)).trans HBK.out
    have x4 : w1.cell? ⟨w.heap.size, 4, none⟩ = some (.int .i64 ((i : Int) + 1)) := by simp [World.cell?, ce]
    have x5 : w1.cell? ⟨w.heap.size, 5, none⟩ = some (.int .i64 eb) := by simp [World.cell?, ce]
    have c1 := H2.cell 1 (by decide)
    dsimp only [hc] at c1
    have z1 := H2.z 1
    have HW : Hid (∀ v, v = max h.top eb → Hm (w1.drew.setCell ⟨b, 1, none⟩ (.int .i64 v)) B b { h with top := max h.top eb } s ∧ Kt B w1.drew (w1.drew.setCell ⟨b, 1, none⟩ (.int .i64 v))) := hide fun v e => by rw [e]; exact (H2.below (Below.refl w1.heap.size w1).drew).setTop (max h.top eb)
    clear hb H2 ce
    go_wp2_with fail
    go_region
    all_goals go_wp2_with fail
    all_goals go_end0
    all_goals exact ⟨rfl, ⟨_, (HW.out _ (by omega)).1⟩, (HK1.out.below (below_drewN (Below.refl _ _) 1)).trans (HW.out _ (by omega)).2⟩
  | true =>
    rw [hn] at HN
    rw [if_pos rfl]
    have HE : Hid (i ≤ h.jobs.length) := hide (by have : i < h.jobs.length := (by simpa [knw] using hn); omega)
    have HI8 := hide hi8
    clear hn
    go_enter Try.func33, Try.ntmps33
    go_wp2_with fail
    refine HN.out.mono ?_
    rintro e w1 ⟨rfl, hb⟩
    have HB1 := hide hb
    have H2 := HH1.out.below hb
    have HH2 := hide H2
    have HK1 := hide (Kt.of_below (B := B) (below_of HBa.out hb))
    have ce := (hb.block _ (lt_of_block HBK.out)).trans HBK.out
    have x4 : w1.cell? ⟨w.heap.size, 4, none⟩ = some (.int .i64 ((i : Int) + 1)) := by simp [World.cell?, ce]
    have x5 : w1.cell? ⟨w.heap.size, 5, none⟩ = some (.int .i64 eb) := by simp [World.cell?, ce]
    have HL := hide (let_any H2 HE.out HI8.out ⟨2, eb, 0, 0, []⟩ (.slice none 0 0) (World.ownsRow_nil _ _ _ _) (fun x _ k e => by cases e))
    have HCE := hide ce
    clear hb H2 ce
    go_wp2_with fail
    refine HL.out.mono ?_
    rintro e w2 ⟨rfl, ⟨s2, h3⟩, h4⟩
    have H3 := hide h3
    have H4 := hide h4
    have ce := box_kt h4 HCE.out
    have c1 := h3.cell 1 (by decide)
    dsimp only [hc, lt_] at c1
    have z1 := h3.z 1
    have x5 : w2.cell? ⟨w.heap.size, 5, none⟩ = some (.int .i64 eb) := by simp [World.cell?, ce]
    have HW : Hid (∀ v, v = max h.top eb → Hm (w2.drew.setCell ⟨b, 1, none⟩ (.int .i64 v)) B b { lt_ h i ⟨2, eb, 0, 0, []⟩ with top := max h.top eb } s2 ∧ Kt B w2.drew (w2.drew.setCell ⟨b, 1, none⟩ (.int .i64 v))) := hide fun v e => by rw [e]; exact (h3.below (Below.refl w2.heap.size w2).drew).setTop (max h.top eb)
    clear h3 h4 ce
    go_wp2_with fail
    go_region
    all_goals go_wp2_with fail
    all_goals go_end0
    all_goals exact ⟨rfl, ⟨_, (HW.out _ (by omega)).1⟩, ((HK1.out.trans H4.out).below (below_drewN (Below.refl _ _) 1)).trans (HW.out _ (by omega)).2⟩
set_option maxHeartbeats 2000000 in
theorem up_any (H : Hm w B b h s) (ek eo en el : Int) (ej eb ei ec es er ew : Int) (ex : ByteArray) {et : List ByteArray} {q : Option Addr} {cq : Nat} :
    Calls Try.prog 31 #[.pointer (some ⟨b, 0, none⟩), .agg #[.int .i64 ek, .int .i64 eo, .int .i64 en, .int .i64 el, .int .i64 ej, .int .i64 eb, .int .i64 ei, .int .i64 ec, .int .i64 es, .int .i64 er, .int .u64 ew, .string ex, .slice q et.length cq]] w fun r w' => r = .returned (.tuple #[]) ∧ (∃ s', Hm w' B b (if en = 0 ∧ el = 0 then { h with sh := true, up := 0 } else h) s') ∧ Kt B w w' := by
  have hBa := below_alloc w (.cells #[.int .i64 ek, .int .i64 eo, .int .i64 en, .int .i64 el, .int .i64 ej, .int .i64 eb, .int .i64 ei, .int .i64 ec, .int .i64 es, .int .i64 er, .int .u64 ew, .string ex, .slice q et.length cq] 43)
  have hbk := heap_alloc_new w (.cells #[.int .i64 ek, .int .i64 eo, .int .i64 en, .int .i64 el, .int .i64 ej, .int .i64 eb, .int .i64 ei, .int .i64 ec, .int .i64 es, .int .i64 er, .int .u64 ew, .string ex, .slice q et.length cq] 43)
  have H1 := H.below hBa
  have H0 := hide H
  have HH1 := hide H1
  have HBa := hide hBa
  have HBK := hide hbk
  have l8 := H.l8
  have heq : ∀ W : World, (binOp .eql 37 (.agg #[.int .i64 en, .int .i64 el]) (.agg #[.int .i64 0, .int .i64 0])).run Try.prog W = .ok (.bool (decide (en = 0 ∧ el = 0))) W := fun W => by
    have : (Op.equalIn 10000 37 (.agg #[.int .i64 en, .int .i64 el]) (.agg #[.int .i64 0, .int .i64 0])).run Try.prog W = .ok (decide (en = 0 ∧ el = 0)) W := by
      go_simp
      by_cases e : en = 0 ∧ el = 0
      · obtain ⟨rfl, rfl⟩ := e; simp
      · by_cases h1 : en = 0
        · have h2 : ¬ el = 0 := fun h => e ⟨h1, h⟩
          simp [h1, h2]
        · simp [h1]
    rw [run_eql_struct, this]; rfl
  have hbl : b < w.heap.size := H0.out.lt
  by_cases hz : en = 0 ∧ el = 0
  · rw [decide_eq_true hz] at heq
    rw [if_pos hz]
    obtain ⟨ha, hk⟩ := H.setSh true
    obtain ⟨ha2, hk2⟩ := ha.setUp 0
    have HF := hide (⟨ha2.below (below_alloc _ (.cells #[.int .i64 ek, .int .i64 eo, .int .i64 en, .int .i64 el, .int .i64 ej, .int .i64 eb, .int .i64 ei, .int .i64 ec, .int .i64 es, .int .i64 er, .int .u64 ew, .string ex, .slice q et.length cq] 43)), (hk.trans hk2).below (below_alloc _ (.cells #[.int .i64 ek, .int .i64 eo, .int .i64 en, .int .i64 el, .int .i64 ej, .int .i64 eb, .int .i64 ei, .int .i64 ec, .int .i64 es, .int .i64 er, .int .u64 ew, .string ex, .slice q et.length cq] 43))⟩ : _ ∧ _)
    have c24 := H0.out.cell 24 (by decide)
    have c25 := H0.out.cell 25 (by decide)
    dsimp only [hc] at c24 c25
    have z24 := H0.out.z 24
    have z25 := H0.out.z 25
    clear H H1 hBa hbk ha hk ha2 hk2 hz
    go_enter Try.func31, Try.ntmps31
    go_wp2_with fail
    go_end0
    exact ⟨rfl, ⟨_, HF.out.1⟩, HF.out.2⟩
  · rw [decide_eq_false hz] at heq
    rw [if_neg hz]
    clear H H1 hBa hbk hz
    go_enter Try.func31, Try.ntmps31
    go_wp2_with fail
    go_end0
    exact ⟨rfl, ⟨_, HH1.out⟩, Kt.of_below HBa.out⟩
end
end Go.Proofs.Ytjfgmdiafhkbgaa
