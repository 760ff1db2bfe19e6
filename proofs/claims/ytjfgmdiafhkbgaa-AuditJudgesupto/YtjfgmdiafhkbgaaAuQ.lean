import Derived.Test.YtjfgmdiafhkbgaaAuK
namespace Go.Proofs.Ytjfgmdiafhkbgaa
open Go.RowKit Go.MapKept
set_option maxRecDepth 8000

theorem lt8 {i : Nat} (h : i < 8) : i = 0 ∨ i = 1 ∨ i = 2 ∨ i = 3 ∨ i = 4 ∨ i = 5 ∨ i = 6 ∨ i = 7 := by omega
section
variable {w w' : World} {B b : Nat} {h : Hs} {s : Hi} {i : Nat}
theorem Hm.setAdm (H : Hm w B b h s) (hi8 : i < 8) (x y : Int) : Hm ((w.setCell ⟨b, 6 + (i + 1) * 2, none⟩ (.int .i64 x)).setCell ⟨b, 6 + (i + 1) * 2 + 1, none⟩ (.int .i64 y)) B b { h with adm := fun k => if k = i + 1 then (x, y) else h.adm k } s ∧ Kt B w ((w.setCell ⟨b, 6 + (i + 1) * 2, none⟩ (.int .i64 x)).setCell ⟨b, 6 + (i + 1) * 2 + 1, none⟩ (.int .i64 y)) := by
  have h1 := H.setb (6 + (i + 1) * 2) (by omega) (.int .i64 x) { h with adm := fun k => if k = i + 1 then (x, (h.adm k).2) else h.adm k } ⟨rfl, rfl, rfl, rfl, rfl⟩ (fun o ho => by rcases lt8 hi8 with rfl|rfl|rfl|rfl|rfl|rfl|rfl|rfl <;> rcases lt26 ho with rfl|rfl|rfl|rfl|rfl|rfl|rfl|rfl|rfl|rfl|rfl|rfl|rfl|rfl|rfl|rfl|rfl|rfl|rfl|rfl|rfl|rfl|rfl|rfl|rfl|rfl <;> rfl)
  have h2 := h1.1.setb (6 + (i + 1) * 2 + 1) (by omega) (.int .i64 y) { h with adm := fun k => if k = i + 1 then (x, y) else h.adm k } ⟨rfl, rfl, rfl, rfl, rfl⟩ (fun o ho => by rcases lt8 hi8 with rfl|rfl|rfl|rfl|rfl|rfl|rfl|rfl <;> rcases lt26 ho with rfl|rfl|rfl|rfl|rfl|rfl|rfl|rfl|rfl|rfl|rfl|rfl|rfl|rfl|rfl|rfl|rfl|rfl|rfl|rfl|rfl|rfl|rfl|rfl|rfl|rfl <;> rfl)
  exact ⟨h2.1, h1.2.trans h2.2⟩
set_option maxHeartbeats 4000000 in
theorem admitted_any (H : Hm w B b h s) (hi8 : i < 8) (ek eo en el : Int) (eb ei ec es er ew : Int) (ex : ByteArray) {et : List ByteArray} {q : Option Addr} {cq : Nat} (hx : 0 ≤ ei ∧ ei ≤ 1099511627776) :
    Calls Try.prog 46 #[.pointer (some ⟨b, 0, none⟩), .agg #[.int .i64 ek, .int .i64 eo, .int .i64 en, .int .i64 el, .int .i64 ((i : Int) + 1), .int .i64 eb, .int .i64 ei, .int .i64 ec, .int .i64 es, .int .i64 er, .int .u64 ew, .string ex, .slice q et.length cq]] w fun r w' => r = .returned (.tuple #[]) ∧ (∃ s', Hm w' B b (if (h.adm (i + 1)).1 ≤ eb then { h with adm := fun k => if k = i + 1 then (eb, ei + 1) else h.adm k } else h) s') ∧ Kt B w w' := by
  have hBa := below_alloc w (.cells #[.int .i64 ek, .int .i64 eo, .int .i64 en, .int .i64 el, .int .i64 ((i : Int) + 1), .int .i64 eb, .int .i64 ei, .int .i64 ec, .int .i64 es, .int .i64 er, .int .u64 ew, .string ex, .slice q et.length cq] 43)
  have hbk := heap_alloc_new w (.cells #[.int .i64 ek, .int .i64 eo, .int .i64 en, .int .i64 el, .int .i64 ((i : Int) + 1), .int .i64 eb, .int .i64 ei, .int .i64 ec, .int .i64 es, .int .i64 er, .int .u64 ew, .string ex, .slice q et.length cq] 43)
  have H1 := H.below hBa
  have H0 := hide H
  have HH1 := hide H1
  have HBa := hide hBa
  have HBK := hide hbk
  have l8 := H.l8
  have i8 : (i : Int) < 8 := by omega
  obtain ⟨x0, x1⟩ := hx
  have HA : Hid (∀ W, Below w.heap.size w W → W.cell? ⟨b, 6 + (i + 1) * 2, none⟩ = some (.int .i64 (h.adm (i + 1)).1) ∧ W.cell? ⟨b, 6 + (i + 1) * 2 + 1, none⟩ = some (.int .i64 (h.adm (i + 1)).2)) := hide fun W hb => ⟨by rw [← hc_a s h (i + 1) (by omega)]; exact (H0.out.below hb).cell _ (by omega), by rw [← hc_b s h (i + 1) (by omega)]; exact (H0.out.below hb).cell _ (by omega)⟩
  have HS : Hid (∀ W, Hm W B b h s → Hm ((W.setCell ⟨b, 6 + (i + 1) * 2, none⟩ (.int .i64 eb)).setCell ⟨b, 6 + (i + 1) * 2 + 1, none⟩ (.int .i64 (ei + 1))) B b { h with adm := fun k => if k = i + 1 then (eb, ei + 1) else h.adm k } s ∧ Kt B W ((W.setCell ⟨b, 6 + (i + 1) * 2, none⟩ (.int .i64 eb)).setCell ⟨b, 6 + (i + 1) * 2 + 1, none⟩ (.int .i64 (ei + 1)))) := hide fun W hW => hW.setAdm hi8 eb (ei + 1)
  have HZ : Hid (∀ W k, Below w.heap.size w W → W.frozen? ⟨b, k, none⟩ = false) := hide fun W k hb => (H0.out.below hb).z k
  have hbl : b < w.heap.size := H.lt
  clear H H1
  obtain ⟨W0, hW⟩ : ∃ V, (w.alloc (.cells #[.int .i64 ek, .int .i64 eo, .int .i64 en, .int .i64 el, .int .i64 ((i : Int) + 1), .int .i64 eb, .int .i64 ei, .int .i64 ec, .int .i64 es, .int .i64 er, .int .u64 ew, .string ex, .slice q et.length cq] 43)) = V := ⟨_, rfl⟩
  have HB0 : Hid (Below w.heap.size w W0) := hide (by rw [← hW]; exact hBa)
  have ce : W0.heap[w.heap.size]? = some (.cells #[.int .i64 ek, .int .i64 eo, .int .i64 en, .int .i64 el, .int .i64 ((i : Int) + 1), .int .i64 eb, .int .i64 ei, .int .i64 ec, .int .i64 es, .int .i64 er, .int .u64 ew, .string ex, .slice q et.length cq] 43 (0, 0)) := by rw [← hW]; exact hbk
  have HH0 : Hid (Hm W0 B b h s) := hide (H0.out.below HB0.out)
  obtain ⟨a0, a1⟩ := HA.out W0 HB0.out
  have x4 : W0.cell? ⟨w.heap.size, 4, none⟩ = some (.int .i64 ((i : Int) + 1)) := by simp [World.cell?, ce]
  have x5 : W0.cell? ⟨w.heap.size, 5, none⟩ = some (.int .i64 eb) := by simp [World.cell?, ce]
  have x6 : W0.cell? ⟨w.heap.size, 6, none⟩ = some (.int .i64 ei) := by simp [World.cell?, ce]
  have z0 := HZ.out W0 (6 + (i + 1) * 2) HB0.out
  have z1 := HZ.out W0 (6 + (i + 1) * 2 + 1) HB0.out
  have HS1 := hide (HS.out W0.drew.drew (HH0.out.below (Below.refl W0.heap.size W0).drew.drew))
  clear hBa hbk HBK HBa HH1 ce
  by_cases hle : (h.adm (i + 1)).1 ≤ eb
  · rw [if_pos hle]
    generalize h.adm (i + 1) = ad at *
    obtain ⟨ab, ap⟩ := ad
    dsimp only at a0 a1 hle
    go_enter Try.func46, Try.ntmps46
    go_wp2_with fail
    clear hW
    go_region
    go_wp2_with fail
    go_region
    go_wp2_with fail
    go_end0
    exact ⟨rfl, ⟨_, HS1.out.1⟩, (Kt.of_below HB0.out.drew.drew).trans HS1.out.2⟩
  · rw [if_neg hle]
    generalize h.adm (i + 1) = ad at *
    obtain ⟨ab, ap⟩ := ad
    dsimp only at a0 a1 hle
    go_enter Try.func46, Try.ntmps46
    go_wp2_with fail
    clear hW
    go_region
    go_wp2_with fail
    go_end0
    exact ⟨rfl, ⟨_, HH0.out.below (Below.refl W0.heap.size W0).drew⟩, Kt.of_below HB0.out.drew⟩
set_option maxHeartbeats 4000000 in
theorem recorded_any (H : Hm w B b h s) (hi8 : i < 8) (ek eo en el : Int) (eb ei ec es er ew : Int) (ex : ByteArray) {et : List ByteArray} {q : Option Addr} {cq : Nat} :
    Calls Try.prog 41 #[.pointer (some ⟨b, 0, none⟩), .agg #[.int .i64 ek, .int .i64 eo, .int .i64 en, .int .i64 el, .int .i64 ((i : Int) + 1), .int .i64 eb, .int .i64 ei, .int .i64 ec, .int .i64 es, .int .i64 er, .int .u64 ew, .string ex, .slice q et.length cq]] w fun r w' => r = .returned (.tuple #[]) ∧ (∃ s', Hm w' B b (if hld h i eb = true then { h with jobs := h.jobs.set i { jat h i with st := 3, rt := er, rb := ew } } else h) s') ∧ Kt B w w' := by
  have hBa := below_alloc w (.cells #[.int .i64 ek, .int .i64 eo, .int .i64 en, .int .i64 el, .int .i64 ((i : Int) + 1), .int .i64 eb, .int .i64 ei, .int .i64 ec, .int .i64 es, .int .i64 er, .int .u64 ew, .string ex, .slice q et.length cq] 43)
  have hbk := heap_alloc_new w (.cells #[.int .i64 ek, .int .i64 eo, .int .i64 en, .int .i64 el, .int .i64 ((i : Int) + 1), .int .i64 eb, .int .i64 ei, .int .i64 ec, .int .i64 es, .int .i64 er, .int .u64 ew, .string ex, .slice q et.length cq] 43)
  have H1 := H.below hBa
  have H0 := hide H
  have HH1 := hide H1
  have HBa := hide hBa
  have HBK := hide hbk
  have l8 := H.l8
  have i8 : (i : Int) < 8 := by omega
  have HN := hide (held_any H1 i eb)
  clear H H1 hBa hbk
  cases hn : hld h i eb with
  | false =>
    rw [hn] at HN
    rw [if_neg (by decide)]
    clear hn
    go_enter Try.func41, Try.ntmps41
    go_wp2_with fail
    refine HN.out.mono ?_
    rintro e w1 ⟨rfl, hb⟩
    have HB1 := hide hb
    have H2 := HH1.out.below hb
    have HH2 := hide H2
    have HK1 := hide (Kt.of_below (B := B) (below_of HBa.out hb))
    have ce := (hb.block _ (lt_of_block HBK.out)).trans HBK.out
    clear hb H2 ce
    go_wp2_with fail
    go_end0
    exact ⟨rfl, ⟨_, HH2.out⟩, HK1.out⟩
  | true =>
    rw [hn] at HN
    rw [if_pos rfl]
    have hi := hld_lt hn
    have ii : (i : Int) < (h.jobs.length : Int) := by omega
    have HI := hide hi
    obtain ⟨ad, cap, hjv⟩ := H0.out.form
    obtain ⟨g, rfl⟩ := H0.out.grow hjv hi
    have hgl : g < w.heap.size := (H0.out.row.lt g (by rw [hjv]; rfl)).2
    have hg1 : ¬ (g = w.heap.size) := by omega
    have hg2 : ¬ (w.heap.size = g) := by omega
    have hja : ∀ (j : Jb) (hh : Hs), hh.jobs = h.jobs.set i j → jat hh i = j := fun j hh e => by
      unfold jat
      rw [e, getElem!_pos _ _ (by simpa using hi)]
      simp
    have hja2 : ∀ (j k : Jb), (h.jobs.set i j).set i k = h.jobs.set i k := fun j k => List.set_set ..
    have HJ := hide hja
    have HJ2 := hide hja2
    clear hn hi hja hja2
    go_enter Try.func41, Try.ntmps41
    go_wp2_with fail
    refine HN.out.mono ?_
    rintro e w1 ⟨rfl, hb⟩
    have HB1 := hide hb
    have H2 := HH1.out.below hb
    have HH2 := hide H2
    have HK1 := hide (Kt.of_below (B := B) (below_of HBa.out hb))
    have ce := (hb.block _ (lt_of_block HBK.out)).trans HBK.out
    have x4 : w1.cell? ⟨w.heap.size, 4, none⟩ = some (.int .i64 ((i : Int) + 1)) := by simp [World.cell?, ce]
    have x9 : w1.cell? ⟨w.heap.size, 9, none⟩ = some (.int .i64 er) := by simp [World.cell?, ce]
    have x10 : w1.cell? ⟨w.heap.size, 10, none⟩ = some (.int .u64 ew) := by simp [World.cell?, ce]
    have c0 := H2.c0 hjv
    obtain ⟨v0, _, k0, k1, k2, k3, k4⟩ := H2.at hjv HI.out
    have z0 := H2.z5 hjv (i * 5)
    have z2 := H2.z5 hjv (i * 5 + 2)
    have z3 := H2.z5 hjv (i * 5 + 3)
    have HA := hide ((H2.below (Below.refl w1.heap.size w1).drew.drew).lay1 HI.out hjv (k := 0) (by decide) (.int .i64 3) { jat h i with st := 3 } (fun _ => rfl) rfl)
    have hlen : ∀ j : Jb, i < (h.jobs.set i j).length := fun j => by rw [List.length_set]; exact HI.out
    have HBb := hide (HA.out.1.lay1 (hlen _) hjv (k := 2) (by decide) (.int .i64 er) { jat h i with st := 3, rt := er } (fun v => by rw [HJ.out { jat h i with st := 3 } { h with jobs := h.jobs.set i { jat h i with st := 3 } } rfl]; rfl) (by rw [HJ.out { jat h i with st := 3 } { h with jobs := h.jobs.set i { jat h i with st := 3 } } rfl]))
    have HC := hide (HBb.out.1.lay1 (by dsimp only; rw [HJ2.out]; exact hlen _) hjv (k := 3) (by decide) (.int .u64 ew) { jat h i with st := 3, rt := er, rb := ew } (fun v => by rw [HJ.out { jat h i with st := 3, rt := er } { h with jobs := (h.jobs.set i { jat h i with st := 3 }).set i { jat h i with st := 3, rt := er } } (HJ2.out _ _)]; rfl) (by rw [HJ.out { jat h i with st := 3, rt := er } { h with jobs := (h.jobs.set i { jat h i with st := 3 }).set i { jat h i with st := 3, rt := er } } (HJ2.out _ _)]))
    have HF : Hid (((h.jobs.set i { jat h i with st := 3 }).set i { jat h i with st := 3, rt := er }).set i { jat h i with st := 3, rt := er, rb := ew } = h.jobs.set i { jat h i with st := 3, rt := er, rb := ew }) := hide (by rw [HJ2.out, HJ2.out])
    clear hb H2 ce hlen
    go_wp2_with fail
    go_region
    go_wp2_with fail
    go_region
    go_wp2_with fail
    go_end0
    refine ⟨rfl, ?_, ((HK1.out.below (Below.refl _ _).drew.drew).trans (HA.out.2.trans HBb.out.2)).trans HC.out.2⟩
    rw [← HF.out]
    exact ⟨_, HC.out.1⟩
end
end Go.Proofs.Ytjfgmdiafhkbgaa
