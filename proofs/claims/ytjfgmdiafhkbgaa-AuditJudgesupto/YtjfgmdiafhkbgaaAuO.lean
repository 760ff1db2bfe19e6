import Derived.Test.YtjfgmdiafhkbgaaAuL
namespace Go.Proofs.Ytjfgmdiafhkbgaa
open Go.RowKit Go.MapKept
set_option maxRecDepth 8000

section
variable {w w' : World} {B b : Nat} {h : Hs} {s : Hi} {i : Nat}
set_option maxHeartbeats 400000 in
theorem storing_any (H : Hm w B b h s) (hi8 : i < 8) (ek eo en el : Int) (eb ei ec es er ew : Int) (ex : ByteArray) {et : List ByteArray} {q : Option Addr} {cq : Nat} (hv : Tx w (.slice q et.length cq) et) (he : et.length ≤ 1048576) (hb64 : i64 eb) (hx : 0 ≤ ei ∧ ei ≤ 1099511627776) :
    Calls Try.prog 38 #[.pointer (some ⟨b, 0, none⟩), .agg #[.int .i64 ek, .int .i64 eo, .int .i64 en, .int .i64 el, .int .i64 ((i : Int) + 1), .int .i64 eb, .int .i64 ei, .int .i64 ec, .int .i64 es, .int .i64 er, .int .u64 ew, .string ex, .slice q et.length cq]] w fun r w' => r = .returned (rul false false false (!hld h i eb) (hld h i eb && ((ei != ((jat h i).lg.length : Int)) || !arC h et eb ei)) false false false) ∧ Below w.heap.size w w' := by
  have HX := hide (Bx.start w #[.int .i64 ek, .int .i64 eo, .int .i64 en, .int .i64 el, .int .i64 ((i : Int) + 1), .int .i64 eb, .int .i64 ei, .int .i64 ec, .int .i64 es, .int .i64 er, .int .u64 ew, .string ex, .slice q et.length cq] #[.bool false, .bool false, .bool false, .bool false, .bool false, .bool false, .bool false, .bool false, .bool false])
  have H0 := hide H
  have l8 := H.l8
  have hbl : b < w.heap.size := H.lt
  have i8 : (i : Int) ≤ 8 := by omega
  have hji : i64 ((i : Int) + 1) := i64_of (by omega)
  clear H
  have HAr : Hid (∀ W, Below w.heap.size w W → Calls Try.prog 64 #[.pointer (some ⟨b, 0, none⟩), .slice q et.length cq, .int .i64 eb, .int .i64 ei] W fun r w' => r = .returned (.bool (arC h et eb ei)) ∧ Below W.heap.size W w') := hide fun W hb => areChunks_any (H0.out.below hb) (hv.below hb) (by omega) eb ei hb64 hx
  have HH : Hid (∀ W, Below w.heap.size w W → Calls Try.prog 62 #[.pointer (some ⟨b, 0, none⟩), nr i, .int .i64 eb] W fun r w' => r = .returned (.bool (hld h i eb)) ∧ Below W.heap.size W w') := hide fun W hb => held_any (H0.out.below hb) i eb
  clear hv hb64 hx
  cases hh : hld h i eb with
  | false =>
    rw [hh] at HH
    clear hh
    go_enter Try.func38, Try.ntmps38
    go_wp2_with fail
    refine (HH.out _ HX.out.below).mono ?_
    rintro e w1 ⟨rfl, hb⟩
    have HX1 := hide (HX.out.low hb)
    have x0 : w1.cell? ⟨w.heap.size, 0, none⟩ = some (.int .i64 ek) := by simp [World.cell?, HX1.out.ev]
    have x1 : w1.cell? ⟨w.heap.size, 1, none⟩ = some (.int .i64 eo) := by simp [World.cell?, HX1.out.ev]
    have x2 : w1.cell? ⟨w.heap.size, 2, none⟩ = some (.int .i64 en) := by simp [World.cell?, HX1.out.ev]
    have x3 : w1.cell? ⟨w.heap.size, 3, none⟩ = some (.int .i64 el) := by simp [World.cell?, HX1.out.ev]
    have x4 : w1.cell? ⟨w.heap.size, 4, none⟩ = some (.int .i64 ((i : Int) + 1)) := by simp [World.cell?, HX1.out.ev]
    have x5 : w1.cell? ⟨w.heap.size, 5, none⟩ = some (.int .i64 eb) := by simp [World.cell?, HX1.out.ev]
    have x6 : w1.cell? ⟨w.heap.size, 6, none⟩ = some (.int .i64 ei) := by simp [World.cell?, HX1.out.ev]
    have x7 : w1.cell? ⟨w.heap.size, 7, none⟩ = some (.int .i64 ec) := by simp [World.cell?, HX1.out.ev]
    have x8 : w1.cell? ⟨w.heap.size, 8, none⟩ = some (.int .i64 es) := by simp [World.cell?, HX1.out.ev]
    have x9 : w1.cell? ⟨w.heap.size, 9, none⟩ = some (.int .i64 er) := by simp [World.cell?, HX1.out.ev]
    have x10 : w1.cell? ⟨w.heap.size, 10, none⟩ = some (.int .u64 ew) := by simp [World.cell?, HX1.out.ev]
    have x11 : w1.cell? ⟨w.heap.size, 11, none⟩ = some (.string ex) := by simp [World.cell?, HX1.out.ev]
    have x12 : w1.cell? ⟨w.heap.size, 12, none⟩ = some (.slice q et.length cq) := by simp [World.cell?, HX1.out.ev]
    have y0 : w1.cell? ⟨w.heap.size + 1, 0, none⟩ = some (.bool false) := by simp [World.cell?, HX1.out.ru]
    have y1 : w1.cell? ⟨w.heap.size + 1, 1, none⟩ = some (.bool false) := by simp [World.cell?, HX1.out.ru]
    have y2 : w1.cell? ⟨w.heap.size + 1, 2, none⟩ = some (.bool false) := by simp [World.cell?, HX1.out.ru]
    have y3 : w1.cell? ⟨w.heap.size + 1, 3, none⟩ = some (.bool false) := by simp [World.cell?, HX1.out.ru]
    have y4 : w1.cell? ⟨w.heap.size + 1, 4, none⟩ = some (.bool false) := by simp [World.cell?, HX1.out.ru]
    have y5 : w1.cell? ⟨w.heap.size + 1, 5, none⟩ = some (.bool false) := by simp [World.cell?, HX1.out.ru]
    have y6 : w1.cell? ⟨w.heap.size + 1, 6, none⟩ = some (.bool false) := by simp [World.cell?, HX1.out.ru]
    have y7 : w1.cell? ⟨w.heap.size + 1, 7, none⟩ = some (.bool false) := by simp [World.cell?, HX1.out.ru]
    have y8 : w1.cell? ⟨w.heap.size + 1, 8, none⟩ = some (.bool false) := by simp [World.cell?, HX1.out.ru]
    have yz : ∀ k, w1.frozen? ⟨w.heap.size + 1, k, none⟩ = false := fun k => by simp [World.frozen?, HX1.out.ru]
    clear hb
    have HX2 := hide (HX1.out.set 4 (.bool true))
    go_upto_region 3 with (fail)
    obtain ⟨V, hV⟩ : ∃ V, w1.setCell ⟨w.heap.size + 1, 4, none⟩ (.bool true) = V := ⟨_, rfl⟩
    rw [hV] at HX2 ⊢
    clear hV
    clear y0 y1 y2 y3 y4 y5 y6 y7 y8 yz
    have y0 : V.cell? ⟨w.heap.size + 1, 0, none⟩ = some (.bool false) := by simp [World.cell?, HX2.out.ru]
    have y1 : V.cell? ⟨w.heap.size + 1, 1, none⟩ = some (.bool false) := by simp [World.cell?, HX2.out.ru]
    have y2 : V.cell? ⟨w.heap.size + 1, 2, none⟩ = some (.bool false) := by simp [World.cell?, HX2.out.ru]
    have y3 : V.cell? ⟨w.heap.size + 1, 3, none⟩ = some (.bool false) := by simp [World.cell?, HX2.out.ru]
    have y4 : V.cell? ⟨w.heap.size + 1, 4, none⟩ = some (.bool true) := by simp [World.cell?, HX2.out.ru]
    have y5 : V.cell? ⟨w.heap.size + 1, 5, none⟩ = some (.bool false) := by simp [World.cell?, HX2.out.ru]
    have y6 : V.cell? ⟨w.heap.size + 1, 6, none⟩ = some (.bool false) := by simp [World.cell?, HX2.out.ru]
    have y7 : V.cell? ⟨w.heap.size + 1, 7, none⟩ = some (.bool false) := by simp [World.cell?, HX2.out.ru]
    have y8 : V.cell? ⟨w.heap.size + 1, 8, none⟩ = some (.bool false) := by simp [World.cell?, HX2.out.ru]
    have yz : ∀ k, V.frozen? ⟨w.heap.size + 1, k, none⟩ = false := fun k => by simp [World.frozen?, HX2.out.ru]
    have hru : V.heap[w.heap.size + 1]? = some (.cells #[.bool false, .bool false, .bool false, .bool false, .bool true, .bool false, .bool false, .bool false, .bool false] 60 (0, 0)) := by simpa using HX2.out.ru
    have HR9 := hide (put9 hru)
    have HB9 := hide (below9 (c0 := .bool false) (c1 := .bool false) (c2 := .bool false) (c3 := .bool false) (c4 := .bool true) (c5 := .bool false) (c6 := .bool false) (c7 := .bool false) (c8 := .bool false) HX2.out.below (Nat.le_succ _))
    clear hru
    go_wp2_with fail
    refine bodyPost_ret (results_rul (fn := Try.f38) rfl _ _ (w.heap.size + 1) #[.bool false, .bool false, .bool false, .bool false, .bool true, .bool false, .bool false, .bool false, .bool false] rfl HR9.out rfl) rfl ?_
    exact ⟨rfl, HB9.out⟩
  | true =>
    rw [hh] at HH
    have hi : i < h.jobs.length := by
      unfold hld isS at hh
      simp only [Bool.and_eq_true] at hh
      simpa [knw] using hh.1.1
    obtain ⟨ad, cap, hjv⟩ := H0.out.form
    obtain ⟨g, rfl⟩ := H0.out.grow hjv hi
    obtain ⟨lv, hL, _⟩ := H0.out.at hjv hi
    obtain ⟨p, cp, hlv⟩ := own_slice (H0.out.logs _ (List.mem_of_getElem? hL))
    dsimp only at hlv
    subst hlv
    have HA : Hid (∀ W, Below w.heap.size w W → W.cell? ⟨b, 0, none⟩ = some (.slice (some ⟨g, 0, none⟩) h.jobs.length cap) ∧ W.cell? ⟨g, i * 5 + 4, none⟩ = some (.slice p (jat h i).lg.length cp)) := hide fun W hb => (by
      have hw := H0.out.below hb
      obtain ⟨lv', hL', h2⟩ := hw.at hjv hi
      rw [hL] at hL'
      injection hL' with hL'
      injection hL' with _ hL'
      subst hL'
      exact ⟨hw.c0 hjv, h2.2.2.2.2⟩)
    have ii : (i : Int) < (h.jobs.length : Int) := by omega
    have hwi : IntKind.i64.wrap (i : Int) = (i : Int) := by rw [IntKind.wrap_i64]; omega
    generalize arC h et eb ei = ac at *
    clear hh hL hjv hi
    generalize hLN : ((jat h i).lg.length : Int) = LN at *
    generalize hAB : ((ei != LN) || !ac) = AB
    have HAB := hide hAB
    clear hAB
    go_enter Try.func38, Try.ntmps38
    go_wp2_with fail
    refine (HH.out _ HX.out.below).mono ?_
    rintro e w1 ⟨rfl, hb⟩
    have HX1 := hide (HX.out.low hb)
    have x0 : w1.cell? ⟨w.heap.size, 0, none⟩ = some (.int .i64 ek) := by simp [World.cell?, HX1.out.ev]
    have x1 : w1.cell? ⟨w.heap.size, 1, none⟩ = some (.int .i64 eo) := by simp [World.cell?, HX1.out.ev]
    have x2 : w1.cell? ⟨w.heap.size, 2, none⟩ = some (.int .i64 en) := by simp [World.cell?, HX1.out.ev]
    have x3 : w1.cell? ⟨w.heap.size, 3, none⟩ = some (.int .i64 el) := by simp [World.cell?, HX1.out.ev]
    have x4 : w1.cell? ⟨w.heap.size, 4, none⟩ = some (.int .i64 ((i : Int) + 1)) := by simp [World.cell?, HX1.out.ev]
    have x5 : w1.cell? ⟨w.heap.size, 5, none⟩ = some (.int .i64 eb) := by simp [World.cell?, HX1.out.ev]
    have x6 : w1.cell? ⟨w.heap.size, 6, none⟩ = some (.int .i64 ei) := by simp [World.cell?, HX1.out.ev]
    have x7 : w1.cell? ⟨w.heap.size, 7, none⟩ = some (.int .i64 ec) := by simp [World.cell?, HX1.out.ev]
    have x8 : w1.cell? ⟨w.heap.size, 8, none⟩ = some (.int .i64 es) := by simp [World.cell?, HX1.out.ev]
    have x9 : w1.cell? ⟨w.heap.size, 9, none⟩ = some (.int .i64 er) := by simp [World.cell?, HX1.out.ev]
    have x10 : w1.cell? ⟨w.heap.size, 10, none⟩ = some (.int .u64 ew) := by simp [World.cell?, HX1.out.ev]
    have x11 : w1.cell? ⟨w.heap.size, 11, none⟩ = some (.string ex) := by simp [World.cell?, HX1.out.ev]
    have x12 : w1.cell? ⟨w.heap.size, 12, none⟩ = some (.slice q et.length cq) := by simp [World.cell?, HX1.out.ev]
    have y0 : w1.cell? ⟨w.heap.size + 1, 0, none⟩ = some (.bool false) := by simp [World.cell?, HX1.out.ru]
    have y1 : w1.cell? ⟨w.heap.size + 1, 1, none⟩ = some (.bool false) := by simp [World.cell?, HX1.out.ru]
    have y2 : w1.cell? ⟨w.heap.size + 1, 2, none⟩ = some (.bool false) := by simp [World.cell?, HX1.out.ru]
    have y3 : w1.cell? ⟨w.heap.size + 1, 3, none⟩ = some (.bool false) := by simp [World.cell?, HX1.out.ru]
    have y4 : w1.cell? ⟨w.heap.size + 1, 4, none⟩ = some (.bool false) := by simp [World.cell?, HX1.out.ru]
    have y5 : w1.cell? ⟨w.heap.size + 1, 5, none⟩ = some (.bool false) := by simp [World.cell?, HX1.out.ru]
    have y6 : w1.cell? ⟨w.heap.size + 1, 6, none⟩ = some (.bool false) := by simp [World.cell?, HX1.out.ru]
    have y7 : w1.cell? ⟨w.heap.size + 1, 7, none⟩ = some (.bool false) := by simp [World.cell?, HX1.out.ru]
    have y8 : w1.cell? ⟨w.heap.size + 1, 8, none⟩ = some (.bool false) := by simp [World.cell?, HX1.out.ru]
    have yz : ∀ k, w1.frozen? ⟨w.heap.size + 1, k, none⟩ = false := fun k => by simp [World.frozen?, HX1.out.ru]
    clear hb
    have HS0 : Hid ((fun V => Below w.heap.size w V ∧ V.heap[w.heap.size]? = some (.cells #[.int .i64 ek, .int .i64 eo, .int .i64 en, .int .i64 el, .int .i64 ((i : Int) + 1), .int .i64 eb, .int .i64 ei, .int .i64 ec, .int .i64 es, .int .i64 er, .int .u64 ew, .string ex, .slice q et.length cq] 43 (0, 0))) (w1.drew)) := hide ⟨HX1.out.below.drew, HX1.out.ev⟩
    have HY0 := hide (HX1.out.low (Below.refl _ _).drew)
    have HCe : Hid (∀ w' : World, (fun V => Below w.heap.size w V ∧ V.heap[w.heap.size]? = some (.cells #[.int .i64 ek, .int .i64 eo, .int .i64 en, .int .i64 el, .int .i64 ((i : Int) + 1), .int .i64 eb, .int .i64 ei, .int .i64 ec, .int .i64 es, .int .i64 er, .int .u64 ew, .string ex, .slice q et.length cq] 43 (0, 0))) w' → w'.cell? ⟨w.heap.size, 4, none⟩ = some (.int .i64 ((i : Int) + 1)) ∧ w'.cell? ⟨w.heap.size, 5, none⟩ = some (.int .i64 eb) ∧ w'.cell? ⟨w.heap.size, 6, none⟩ = some (.int .i64 ei) ∧ w'.cell? ⟨w.heap.size, 12, none⟩ = some (.slice q et.length cq) ∧ w'.cell? ⟨b, 0, none⟩ = some (.slice (some ⟨g, 0, none⟩) h.jobs.length cap) ∧ w'.cell? ⟨g, i * 5 + 4, none⟩ = some (.slice p (jat h i).lg.length cp)) := hide fun w' hw => ⟨by simp [World.cell?, hw.2], by simp [World.cell?, hw.2], by simp [World.cell?, hw.2], by simp [World.cell?, hw.2], (HA.out _ hw.1).1, (HA.out _ hw.1).2⟩
    go_wp2_with fail
    cases hne : (ei != LN) with
    | true =>
      have hlen : ((jat h i).lg.length : Int) = LN := hLN
      refine wp_region_held_drew (S := fun V => Below w.heap.size w V ∧ V.heap[w.heap.size]? = some (.cells #[.int .i64 ek, .int .i64 eo, .int .i64 en, .int .i64 el, .int .i64 ((i : Int) + 1), .int .i64 eb, .int .i64 ei, .int .i64 ec, .int .i64 es, .int .i64 er, .int .u64 ew, .string ex, .slice q et.length cq] 43 (0, 0))) (by kernel_rfl) (HS0.out) (fun hHeld => ?_)
      refine wpAnyH_take (i := 0) (v := .pointer (some ⟨w.heap.size, 6, none⟩)) rfl (by kernel_rfl) (by kernel_rfl) (by kernel_rfl) (fun _ _ _ h => h) (Or.inl ⟨by kernel_rfl, fun w1 hSw => by clear hHeld; obtain ⟨f0, f1, f2, f3, f4, f5⟩ := HCe.out _ hSw; go_simp⟩) hHeld ?_
      try simp only [Act.put]
      try simp only [List.getElem_toArray]
      try simp only [List.getElem_cons_succ]
      try simp only [List.getElem_cons_zero]
      try simp only [List.setIfInBounds_toArray]
      try simp only [List.set_cons_succ, List.set_cons_zero]
      refine wpAnyH_take (i := 1) (v := .int .i64 ei) rfl (by kernel_rfl) (by kernel_rfl) (by kernel_rfl) (fun _ _ _ h => h) (Or.inl ⟨by kernel_rfl, fun w1 hSw => by clear hHeld; obtain ⟨f0, f1, f2, f3, f4, f5⟩ := HCe.out _ hSw; go_simp⟩) hHeld ?_
      try simp only [Act.put]
      try simp only [List.getElem_toArray]
      try simp only [List.getElem_cons_succ]
      try simp only [List.getElem_cons_zero]
      try simp only [List.setIfInBounds_toArray]
      try simp only [List.set_cons_succ, List.set_cons_zero]
      refine wpAnyH_take (i := 2) (v := .pointer (some ⟨b, 0, none⟩)) rfl (by kernel_rfl) (by kernel_rfl) (by kernel_rfl) (fun _ _ _ h => h) (Or.inl ⟨by kernel_rfl, fun w1 hSw => by clear hHeld; obtain ⟨f0, f1, f2, f3, f4, f5⟩ := HCe.out _ hSw; go_simp⟩) hHeld ?_
      try simp only [Act.put]
      try simp only [List.getElem_toArray]
      try simp only [List.getElem_cons_succ]
      try simp only [List.getElem_cons_zero]
      try simp only [List.setIfInBounds_toArray]
      try simp only [List.set_cons_succ, List.set_cons_zero]
      refine wpAnyH_take (i := 3) (v := .pointer (some ⟨b, 0, none⟩)) rfl (by kernel_rfl) (by kernel_rfl) (by kernel_rfl) (fun _ _ _ h => h) (Or.inl ⟨by kernel_rfl, fun w1 hSw => by clear hHeld; obtain ⟨f0, f1, f2, f3, f4, f5⟩ := HCe.out _ hSw; go_simp⟩) hHeld ?_
      try simp only [Act.put]
      try simp only [List.getElem_toArray]
      try simp only [List.getElem_cons_succ]
      try simp only [List.getElem_cons_zero]
      try simp only [List.setIfInBounds_toArray]
      try simp only [List.set_cons_succ, List.set_cons_zero]
      refine wpAnyH_take (i := 4) (v := .pointer (some ⟨b, 0, none⟩)) rfl (by kernel_rfl) (by kernel_rfl) (by kernel_rfl) (fun _ _ _ h => h) (Or.inl ⟨by kernel_rfl, fun w1 hSw => by clear hHeld; obtain ⟨f0, f1, f2, f3, f4, f5⟩ := HCe.out _ hSw; go_simp⟩) hHeld ?_
      try simp only [Act.put]
      try simp only [List.getElem_toArray]
      try simp only [List.getElem_cons_succ]
      try simp only [List.getElem_cons_zero]
      try simp only [List.setIfInBounds_toArray]
      try simp only [List.set_cons_succ, List.set_cons_zero]
      refine wpAnyH_take (i := 5) (v := .slice (some ⟨g, 0, none⟩) h.jobs.length cap) rfl (by kernel_rfl) (by kernel_rfl) (by kernel_rfl) (fun _ _ _ h => h) (Or.inl ⟨by kernel_rfl, fun w1 hSw => by clear hHeld; obtain ⟨f0, f1, f2, f3, f4, f5⟩ := HCe.out _ hSw; go_simp⟩) hHeld ?_
      try simp only [Act.put]
      try simp only [List.getElem_toArray]
      try simp only [List.getElem_cons_succ]
      try simp only [List.getElem_cons_zero]
      try simp only [List.setIfInBounds_toArray]
      try simp only [List.set_cons_succ, List.set_cons_zero]
      refine wpAnyH_take (i := 6) (v := .pointer (some ⟨w.heap.size, 4, none⟩)) rfl (by kernel_rfl) (by kernel_rfl) (by kernel_rfl) (fun _ _ _ h => h) (Or.inl ⟨by kernel_rfl, fun w1 hSw => by clear hHeld; obtain ⟨f0, f1, f2, f3, f4, f5⟩ := HCe.out _ hSw; go_simp⟩) hHeld ?_
      try simp only [Act.put]
      try simp only [List.getElem_toArray]
      try simp only [List.getElem_cons_succ]
      try simp only [List.getElem_cons_zero]
      try simp only [List.setIfInBounds_toArray]
      try simp only [List.set_cons_succ, List.set_cons_zero]
      refine wpAnyH_take (i := 7) (v := .int .i64 ((i : Int) + 1)) rfl (by kernel_rfl) (by kernel_rfl) (by kernel_rfl) (fun _ _ _ h => h) (Or.inl ⟨by kernel_rfl, fun w1 hSw => by clear hHeld; obtain ⟨f0, f1, f2, f3, f4, f5⟩ := HCe.out _ hSw; go_simp⟩) hHeld ?_
      try simp only [Act.put]
      try simp only [List.getElem_toArray]
      try simp only [List.getElem_cons_succ]
      try simp only [List.getElem_cons_zero]
      try simp only [List.setIfInBounds_toArray]
      try simp only [List.set_cons_succ, List.set_cons_zero]
      refine wpAnyH_take (i := 8) (v := .int .i64 (i : Int)) rfl (by kernel_rfl) (by kernel_rfl) (by kernel_rfl) (fun _ _ _ h => h) (Or.inl ⟨by kernel_rfl, fun w1 hSw => by clear hHeld; obtain ⟨f0, f1, f2, f3, f4, f5⟩ := HCe.out _ hSw; go_simp⟩) hHeld ?_
      try simp only [Act.put]
      try simp only [List.getElem_toArray]
      try simp only [List.getElem_cons_succ]
      try simp only [List.getElem_cons_zero]
      try simp only [List.setIfInBounds_toArray]
      try simp only [List.set_cons_succ, List.set_cons_zero]
      refine wpAnyH_take (i := 9) (v := .pointer (some ⟨g, i * 5, none⟩)) rfl (by kernel_rfl) (by kernel_rfl) (by kernel_rfl) (fun _ _ _ h => h) (Or.inl ⟨by kernel_rfl, fun w1 hSw => by clear hHeld; obtain ⟨f0, f1, f2, f3, f4, f5⟩ := HCe.out _ hSw; go_simp⟩) hHeld ?_
      try simp only [Act.put]
      try simp only [List.getElem_toArray]
      try simp only [List.getElem_cons_succ]
      try simp only [List.getElem_cons_zero]
      try simp only [List.setIfInBounds_toArray]
      try simp only [List.set_cons_succ, List.set_cons_zero]
      refine wpAnyH_take (i := 10) (v := .pointer (some ⟨g, i * 5 + 4, none⟩)) rfl (by kernel_rfl) (by kernel_rfl) (by kernel_rfl) (fun _ _ _ h => h) (Or.inl ⟨by kernel_rfl, fun w1 hSw => by clear hHeld; obtain ⟨f0, f1, f2, f3, f4, f5⟩ := HCe.out _ hSw; go_simp⟩) hHeld ?_
      try simp only [Act.put]
      try simp only [List.getElem_toArray]
      try simp only [List.getElem_cons_succ]
      try simp only [List.getElem_cons_zero]
      try simp only [List.setIfInBounds_toArray]
      try simp only [List.set_cons_succ, List.set_cons_zero]
      refine wpAnyH_take (i := 11) (v := .slice p (jat h i).lg.length cp) rfl (by kernel_rfl) (by kernel_rfl) (by kernel_rfl) (fun _ _ _ h => h) (Or.inl ⟨by kernel_rfl, fun w1 hSw => by clear hHeld; obtain ⟨f0, f1, f2, f3, f4, f5⟩ := HCe.out _ hSw; go_simp⟩) hHeld ?_
      try simp only [Act.put]
      try simp only [List.getElem_toArray]
      try simp only [List.getElem_cons_succ]
      try simp only [List.getElem_cons_zero]
      try simp only [List.setIfInBounds_toArray]
      try simp only [List.set_cons_succ, List.set_cons_zero]
      refine wpAnyH_take (i := 12) (v := .int .i64 LN) rfl (by kernel_rfl) (by kernel_rfl) (by kernel_rfl) (fun _ _ _ h => h) (Or.inl ⟨by kernel_rfl, fun w1 hSw => by clear hHeld; obtain ⟨f0, f1, f2, f3, f4, f5⟩ := HCe.out _ hSw; go_simp⟩) hHeld ?_
      try simp only [Act.put]
      try simp only [List.getElem_toArray]
      try simp only [List.getElem_cons_succ]
      try simp only [List.getElem_cons_zero]
      try simp only [List.setIfInBounds_toArray]
      try simp only [List.set_cons_succ, List.set_cons_zero]
      refine wpAnyH_take (i := 13) (v := .bool true) rfl (by kernel_rfl) (by kernel_rfl) (by kernel_rfl) (fun _ _ _ h => h) (Or.inl ⟨by kernel_rfl, fun w1 hSw => by clear hHeld; obtain ⟨f0, f1, f2, f3, f4, f5⟩ := HCe.out _ hSw; go_simp⟩) hHeld ?_
      try simp only [Act.put]
      try simp only [List.getElem_toArray]
      try simp only [List.getElem_cons_succ]
      try simp only [List.getElem_cons_zero]
      try simp only [List.setIfInBounds_toArray]
      try simp only [List.set_cons_succ, List.set_cons_zero]
      refine wpAnyH_take (i := 14) (v := .bool true) rfl (by kernel_rfl) (by kernel_rfl) (by kernel_rfl) (fun _ _ _ h => h) (Or.inl ⟨by kernel_rfl, fun w1 hSw => by clear hHeld; obtain ⟨f0, f1, f2, f3, f4, f5⟩ := HCe.out _ hSw; go_simp⟩) hHeld ?_
      try simp only [Act.put]
      try simp only [List.getElem_toArray]
      try simp only [List.getElem_cons_succ]
      try simp only [List.getElem_cons_zero]
      try simp only [List.setIfInBounds_toArray]
      try simp only [List.set_cons_succ, List.set_cons_zero]
      refine wpAnyH_take (i := 15) (v := undef) rfl (by kernel_rfl) (by kernel_rfl) (by kernel_rfl) (fun _ _ _ h => h) (Or.inr ⟨by kernel_rfl, rfl⟩) hHeld ?_
      try simp only [Act.put]
      try simp only [List.getElem_toArray]
      try simp only [List.getElem_cons_succ]
      try simp only [List.getElem_cons_zero]
      try simp only [List.setIfInBounds_toArray]
      try simp only [List.set_cons_succ, List.set_cons_zero]
      refine wpAnyH_take (i := 16) (v := undef) rfl (by kernel_rfl) (by kernel_rfl) (by kernel_rfl) (fun _ _ _ h => h) (Or.inr ⟨by kernel_rfl, rfl⟩) hHeld ?_
      try simp only [Act.put]
      try simp only [List.getElem_toArray]
      try simp only [List.getElem_cons_succ]
      try simp only [List.getElem_cons_zero]
      try simp only [List.setIfInBounds_toArray]
      try simp only [List.set_cons_succ, List.set_cons_zero]
      refine wpAnyH_take (i := 17) (v := undef) rfl (by kernel_rfl) (by kernel_rfl) (by kernel_rfl) (fun _ _ _ h => h) (Or.inr ⟨by kernel_rfl, rfl⟩) hHeld ?_
      try simp only [Act.put]
      try simp only [List.getElem_toArray]
      try simp only [List.getElem_cons_succ]
      try simp only [List.getElem_cons_zero]
      try simp only [List.setIfInBounds_toArray]
      try simp only [List.set_cons_succ, List.set_cons_zero]
      refine wpAnyH_take (i := 18) (v := undef) rfl (by kernel_rfl) (by kernel_rfl) (by kernel_rfl) (fun _ _ _ h => h) (Or.inr ⟨by kernel_rfl, rfl⟩) hHeld ?_
      try simp only [Act.put]
      try simp only [List.getElem_toArray]
      try simp only [List.getElem_cons_succ]
      try simp only [List.getElem_cons_zero]
      try simp only [List.setIfInBounds_toArray]
      try simp only [List.set_cons_succ, List.set_cons_zero]
      refine wpAnyH_take (i := 19) (v := undef) rfl (by kernel_rfl) (by kernel_rfl) (by kernel_rfl) (fun _ _ _ h => h) (Or.inr ⟨by kernel_rfl, rfl⟩) hHeld ?_
      try simp only [Act.put]
      try simp only [List.getElem_toArray]
      try simp only [List.getElem_cons_succ]
      try simp only [List.getElem_cons_zero]
      try simp only [List.setIfInBounds_toArray]
      try simp only [List.set_cons_succ, List.set_cons_zero]
      refine wpAnyH_take (i := 20) (v := undef) rfl (by kernel_rfl) (by kernel_rfl) (by kernel_rfl) (fun _ _ _ h => h) (Or.inr ⟨by kernel_rfl, rfl⟩) hHeld ?_
      try simp only [Act.put]
      try simp only [List.getElem_toArray]
      try simp only [List.getElem_cons_succ]
      try simp only [List.getElem_cons_zero]
      try simp only [List.setIfInBounds_toArray]
      try simp only [List.set_cons_succ, List.set_cons_zero]
      refine wpAnyH_take (i := 21) (v := undef) rfl (by kernel_rfl) (by kernel_rfl) (by kernel_rfl) (fun _ _ _ h => h) (Or.inr ⟨by kernel_rfl, rfl⟩) hHeld ?_
      try simp only [Act.put]
      try simp only [List.getElem_toArray]
      try simp only [List.getElem_cons_succ]
      try simp only [List.getElem_cons_zero]
      try simp only [List.setIfInBounds_toArray]
      try simp only [List.set_cons_succ, List.set_cons_zero]
      refine wpAnyH_take (i := 22) (v := undef) rfl (by kernel_rfl) (by kernel_rfl) (by kernel_rfl) (fun _ _ _ h => h) (Or.inr ⟨by kernel_rfl, rfl⟩) hHeld ?_
      try simp only [Act.put]
      try simp only [List.getElem_toArray]
      try simp only [List.getElem_cons_succ]
      try simp only [List.getElem_cons_zero]
      try simp only [List.setIfInBounds_toArray]
      try simp only [List.set_cons_succ, List.set_cons_zero]
      refine wpAnyH_take (i := 23) (v := undef) rfl (by kernel_rfl) (by kernel_rfl) (by kernel_rfl) (fun _ _ _ h => h) (Or.inr ⟨by kernel_rfl, rfl⟩) hHeld ?_
      try simp only [Act.put]
      try simp only [List.getElem_toArray]
      try simp only [List.getElem_cons_succ]
      try simp only [List.getElem_cons_zero]
      try simp only [List.setIfInBounds_toArray]
      try simp only [List.set_cons_succ, List.set_cons_zero]
      refine wpAnyH_take (i := 24) (v := .bool true) rfl (by kernel_rfl) (by kernel_rfl) (by kernel_rfl) (fun _ _ _ h => h) (Or.inl ⟨by kernel_rfl, fun w1 hSw => by clear hHeld; obtain ⟨f0, f1, f2, f3, f4, f5⟩ := HCe.out _ hSw; go_simp⟩) hHeld ?_
      try simp only [Act.put]
      try simp only [List.getElem_toArray]
      try simp only [List.getElem_cons_succ]
      try simp only [List.getElem_cons_zero]
      try simp only [List.setIfInBounds_toArray]
      try simp only [List.set_cons_succ, List.set_cons_zero]
      refine wpAnyH_take (i := 25) (v := .pointer (some ⟨w.heap.size + 1, 5, none⟩)) rfl (by kernel_rfl) (by kernel_rfl) (by kernel_rfl) (fun _ _ _ h => h) (Or.inl ⟨by kernel_rfl, fun w1 hSw => by clear hHeld; obtain ⟨f0, f1, f2, f3, f4, f5⟩ := HCe.out _ hSw; go_simp⟩) hHeld ?_
      try simp only [Act.put]
      try simp only [List.getElem_toArray]
      try simp only [List.getElem_cons_succ]
      try simp only [List.getElem_cons_zero]
      try simp only [List.setIfInBounds_toArray]
      try simp only [List.set_cons_succ, List.set_cons_zero]
      refine wpAnyH_ready (rs := [26]) (by kernel_rfl) (by simp) ?_
      refine AllReadyH.cons rfl (fun K hK => ?_) AllReadyH.nil
      have sz : w1.drew.frozen? ⟨w.heap.size + 1, 5, none⟩ = false := by simp [World.frozen?, HY0.out.ru]
      have sc : w1.drew.cell? ⟨w.heap.size + 1, 5, none⟩ = some (.bool false) := by simp [World.cell?, HY0.out.ru]
      have HYs := hide (HY0.out.set 5 (.bool true))
      have HSs : Hid ((fun V => Below w.heap.size w V ∧ V.heap[w.heap.size]? = some (.cells #[.int .i64 ek, .int .i64 eo, .int .i64 en, .int .i64 el, .int .i64 ((i : Int) + 1), .int .i64 eb, .int .i64 ei, .int .i64 ec, .int .i64 es, .int .i64 er, .int .u64 ew, .string ex, .slice q et.length cq] 43 (0, 0))) (w1.drew.setCell ⟨w.heap.size + 1, 5, none⟩ (.bool true))) := hide ⟨HYs.out.below, HYs.out.ev⟩
      clear hHeld
      go_simp
      refine hK.out _ _ (HSs.out) (fun hHeld => ?_)
      clear hK K
      try simp only [Act.put]
      try simp only [List.getElem_toArray]
      try simp only [List.getElem_cons_succ]
      try simp only [List.getElem_cons_zero]
      try simp only [List.setIfInBounds_toArray]
      try simp only [List.set_cons_succ, List.set_cons_zero]
      refine wpAnyH_done (by kernel_rfl) ?_ _
      replace HYs : Hid (Bx w ((w1.setCell ⟨w.heap.size + 1, 5, none⟩ (.bool true)).drew) _ _) := hide HYs.out
      go_upto_region 5 with (fail)
      obtain ⟨V, hV⟩ : ∃ V, (w1.setCell ⟨w.heap.size + 1, 5, none⟩ (.bool true)).drew = V := ⟨_, rfl⟩
      rw [hV] at HYs ⊢
      clear hV
      clear y0 y1 y2 y3 y4 y5 y6 y7 y8 yz
      have y0 : V.cell? ⟨w.heap.size + 1, 0, none⟩ = some (.bool false) := by simp [World.cell?, HYs.out.ru]
      have y1 : V.cell? ⟨w.heap.size + 1, 1, none⟩ = some (.bool false) := by simp [World.cell?, HYs.out.ru]
      have y2 : V.cell? ⟨w.heap.size + 1, 2, none⟩ = some (.bool false) := by simp [World.cell?, HYs.out.ru]
      have y3 : V.cell? ⟨w.heap.size + 1, 3, none⟩ = some (.bool false) := by simp [World.cell?, HYs.out.ru]
      have y4 : V.cell? ⟨w.heap.size + 1, 4, none⟩ = some (.bool false) := by simp [World.cell?, HYs.out.ru]
      have y5 : V.cell? ⟨w.heap.size + 1, 5, none⟩ = some (.bool true) := by simp [World.cell?, HYs.out.ru]
      have y6 : V.cell? ⟨w.heap.size + 1, 6, none⟩ = some (.bool false) := by simp [World.cell?, HYs.out.ru]
      have y7 : V.cell? ⟨w.heap.size + 1, 7, none⟩ = some (.bool false) := by simp [World.cell?, HYs.out.ru]
      have y8 : V.cell? ⟨w.heap.size + 1, 8, none⟩ = some (.bool false) := by simp [World.cell?, HYs.out.ru]
      have yz : ∀ k, V.frozen? ⟨w.heap.size + 1, k, none⟩ = false := fun k => by simp [World.frozen?, HYs.out.ru]
      have hru : V.heap[w.heap.size + 1]? = some (.cells #[.bool false, .bool false, .bool false, .bool false, .bool false, .bool true, .bool false, .bool false, .bool false] 60 (0, 0)) := by simpa using HYs.out.ru
      have HR9 := hide (put9 hru)
      have HB9 := hide (below9 (c0 := .bool false) (c1 := .bool false) (c2 := .bool false) (c3 := .bool false) (c4 := .bool false) (c5 := .bool true) (c6 := .bool false) (c7 := .bool false) (c8 := .bool false) HYs.out.below (Nat.le_succ _))
      clear hru
      have HNE := hide hne
      clear hne
      go_wp2_with fail
      refine bodyPost_ret (results_rul (fn := Try.f38) rfl _ _ (w.heap.size + 1) #[.bool false, .bool false, .bool false, .bool false, .bool false, .bool true, .bool false, .bool false, .bool false] rfl HR9.out rfl) rfl ?_
      exact ⟨by rw [← HAB.out, HNE.out]; rfl, HB9.out⟩
    | false =>
      refine wp_region_held_drew (S := fun V => Below w.heap.size w V ∧ V.heap[w.heap.size]? = some (.cells #[.int .i64 ek, .int .i64 eo, .int .i64 en, .int .i64 el, .int .i64 ((i : Int) + 1), .int .i64 eb, .int .i64 ei, .int .i64 ec, .int .i64 es, .int .i64 er, .int .u64 ew, .string ex, .slice q et.length cq] 43 (0, 0))) (by kernel_rfl) (HS0.out) (fun hHeld => ?_)
      refine wpAnyH_take (i := 0) (v := .pointer (some ⟨w.heap.size, 6, none⟩)) rfl (by kernel_rfl) (by kernel_rfl) (by kernel_rfl) (fun _ _ _ h => h) (Or.inl ⟨by kernel_rfl, fun w1 hSw => by clear hHeld; obtain ⟨f0, f1, f2, f3, f4, f5⟩ := HCe.out _ hSw; go_simp⟩) hHeld ?_
      try simp only [Act.put]
      try simp only [List.getElem_toArray]
      try simp only [List.getElem_cons_succ]
      try simp only [List.getElem_cons_zero]
      try simp only [List.setIfInBounds_toArray]
      try simp only [List.set_cons_succ, List.set_cons_zero]
      refine wpAnyH_take (i := 1) (v := .int .i64 ei) rfl (by kernel_rfl) (by kernel_rfl) (by kernel_rfl) (fun _ _ _ h => h) (Or.inl ⟨by kernel_rfl, fun w1 hSw => by clear hHeld; obtain ⟨f0, f1, f2, f3, f4, f5⟩ := HCe.out _ hSw; go_simp⟩) hHeld ?_
      try simp only [Act.put]
      try simp only [List.getElem_toArray]
      try simp only [List.getElem_cons_succ]
      try simp only [List.getElem_cons_zero]
      try simp only [List.setIfInBounds_toArray]
      try simp only [List.set_cons_succ, List.set_cons_zero]
      refine wpAnyH_take (i := 2) (v := .pointer (some ⟨b, 0, none⟩)) rfl (by kernel_rfl) (by kernel_rfl) (by kernel_rfl) (fun _ _ _ h => h) (Or.inl ⟨by kernel_rfl, fun w1 hSw => by clear hHeld; obtain ⟨f0, f1, f2, f3, f4, f5⟩ := HCe.out _ hSw; go_simp⟩) hHeld ?_
      try simp only [Act.put]
      try simp only [List.getElem_toArray]
      try simp only [List.getElem_cons_succ]
      try simp only [List.getElem_cons_zero]
      try simp only [List.setIfInBounds_toArray]
      try simp only [List.set_cons_succ, List.set_cons_zero]
      refine wpAnyH_take (i := 3) (v := .pointer (some ⟨b, 0, none⟩)) rfl (by kernel_rfl) (by kernel_rfl) (by kernel_rfl) (fun _ _ _ h => h) (Or.inl ⟨by kernel_rfl, fun w1 hSw => by clear hHeld; obtain ⟨f0, f1, f2, f3, f4, f5⟩ := HCe.out _ hSw; go_simp⟩) hHeld ?_
      try simp only [Act.put]
      try simp only [List.getElem_toArray]
      try simp only [List.getElem_cons_succ]
      try simp only [List.getElem_cons_zero]
      try simp only [List.setIfInBounds_toArray]
      try simp only [List.set_cons_succ, List.set_cons_zero]
      refine wpAnyH_take (i := 4) (v := .pointer (some ⟨b, 0, none⟩)) rfl (by kernel_rfl) (by kernel_rfl) (by kernel_rfl) (fun _ _ _ h => h) (Or.inl ⟨by kernel_rfl, fun w1 hSw => by clear hHeld; obtain ⟨f0, f1, f2, f3, f4, f5⟩ := HCe.out _ hSw; go_simp⟩) hHeld ?_
      try simp only [Act.put]
      try simp only [List.getElem_toArray]
      try simp only [List.getElem_cons_succ]
      try simp only [List.getElem_cons_zero]
      try simp only [List.setIfInBounds_toArray]
      try simp only [List.set_cons_succ, List.set_cons_zero]
      refine wpAnyH_take (i := 5) (v := .slice (some ⟨g, 0, none⟩) h.jobs.length cap) rfl (by kernel_rfl) (by kernel_rfl) (by kernel_rfl) (fun _ _ _ h => h) (Or.inl ⟨by kernel_rfl, fun w1 hSw => by clear hHeld; obtain ⟨f0, f1, f2, f3, f4, f5⟩ := HCe.out _ hSw; go_simp⟩) hHeld ?_
      try simp only [Act.put]
      try simp only [List.getElem_toArray]
      try simp only [List.getElem_cons_succ]
      try simp only [List.getElem_cons_zero]
      try simp only [List.setIfInBounds_toArray]
      try simp only [List.set_cons_succ, List.set_cons_zero]
      refine wpAnyH_take (i := 6) (v := .pointer (some ⟨w.heap.size, 4, none⟩)) rfl (by kernel_rfl) (by kernel_rfl) (by kernel_rfl) (fun _ _ _ h => h) (Or.inl ⟨by kernel_rfl, fun w1 hSw => by clear hHeld; obtain ⟨f0, f1, f2, f3, f4, f5⟩ := HCe.out _ hSw; go_simp⟩) hHeld ?_
      try simp only [Act.put]
      try simp only [List.getElem_toArray]
      try simp only [List.getElem_cons_succ]
      try simp only [List.getElem_cons_zero]
      try simp only [List.setIfInBounds_toArray]
      try simp only [List.set_cons_succ, List.set_cons_zero]
      refine wpAnyH_take (i := 7) (v := .int .i64 ((i : Int) + 1)) rfl (by kernel_rfl) (by kernel_rfl) (by kernel_rfl) (fun _ _ _ h => h) (Or.inl ⟨by kernel_rfl, fun w1 hSw => by clear hHeld; obtain ⟨f0, f1, f2, f3, f4, f5⟩ := HCe.out _ hSw; go_simp⟩) hHeld ?_
      try simp only [Act.put]
      try simp only [List.getElem_toArray]
      try simp only [List.getElem_cons_succ]
      try simp only [List.getElem_cons_zero]
      try simp only [List.setIfInBounds_toArray]
      try simp only [List.set_cons_succ, List.set_cons_zero]
      refine wpAnyH_take (i := 8) (v := .int .i64 (i : Int)) rfl (by kernel_rfl) (by kernel_rfl) (by kernel_rfl) (fun _ _ _ h => h) (Or.inl ⟨by kernel_rfl, fun w1 hSw => by clear hHeld; obtain ⟨f0, f1, f2, f3, f4, f5⟩ := HCe.out _ hSw; go_simp⟩) hHeld ?_
      try simp only [Act.put]
      try simp only [List.getElem_toArray]
      try simp only [List.getElem_cons_succ]
      try simp only [List.getElem_cons_zero]
      try simp only [List.setIfInBounds_toArray]
      try simp only [List.set_cons_succ, List.set_cons_zero]
      refine wpAnyH_take (i := 9) (v := .pointer (some ⟨g, i * 5, none⟩)) rfl (by kernel_rfl) (by kernel_rfl) (by kernel_rfl) (fun _ _ _ h => h) (Or.inl ⟨by kernel_rfl, fun w1 hSw => by clear hHeld; obtain ⟨f0, f1, f2, f3, f4, f5⟩ := HCe.out _ hSw; go_simp⟩) hHeld ?_
      try simp only [Act.put]
      try simp only [List.getElem_toArray]
      try simp only [List.getElem_cons_succ]
      try simp only [List.getElem_cons_zero]
      try simp only [List.setIfInBounds_toArray]
      try simp only [List.set_cons_succ, List.set_cons_zero]
      refine wpAnyH_take (i := 10) (v := .pointer (some ⟨g, i * 5 + 4, none⟩)) rfl (by kernel_rfl) (by kernel_rfl) (by kernel_rfl) (fun _ _ _ h => h) (Or.inl ⟨by kernel_rfl, fun w1 hSw => by clear hHeld; obtain ⟨f0, f1, f2, f3, f4, f5⟩ := HCe.out _ hSw; go_simp⟩) hHeld ?_
      try simp only [Act.put]
      try simp only [List.getElem_toArray]
      try simp only [List.getElem_cons_succ]
      try simp only [List.getElem_cons_zero]
      try simp only [List.setIfInBounds_toArray]
      try simp only [List.set_cons_succ, List.set_cons_zero]
      refine wpAnyH_take (i := 11) (v := .slice p (jat h i).lg.length cp) rfl (by kernel_rfl) (by kernel_rfl) (by kernel_rfl) (fun _ _ _ h => h) (Or.inl ⟨by kernel_rfl, fun w1 hSw => by clear hHeld; obtain ⟨f0, f1, f2, f3, f4, f5⟩ := HCe.out _ hSw; go_simp⟩) hHeld ?_
      try simp only [Act.put]
      try simp only [List.getElem_toArray]
      try simp only [List.getElem_cons_succ]
      try simp only [List.getElem_cons_zero]
      try simp only [List.setIfInBounds_toArray]
      try simp only [List.set_cons_succ, List.set_cons_zero]
      refine wpAnyH_take (i := 12) (v := .int .i64 LN) rfl (by kernel_rfl) (by kernel_rfl) (by kernel_rfl) (fun _ _ _ h => h) (Or.inl ⟨by kernel_rfl, fun w1 hSw => by clear hHeld; obtain ⟨f0, f1, f2, f3, f4, f5⟩ := HCe.out _ hSw; go_simp⟩) hHeld ?_
      try simp only [Act.put]
      try simp only [List.getElem_toArray]
      try simp only [List.getElem_cons_succ]
      try simp only [List.getElem_cons_zero]
      try simp only [List.setIfInBounds_toArray]
      try simp only [List.set_cons_succ, List.set_cons_zero]
      refine wpAnyH_take (i := 13) (v := .bool false) rfl (by kernel_rfl) (by kernel_rfl) (by kernel_rfl) (fun _ _ _ h => h) (Or.inl ⟨by kernel_rfl, fun w1 hSw => by clear hHeld; obtain ⟨f0, f1, f2, f3, f4, f5⟩ := HCe.out _ hSw; go_simp⟩) hHeld ?_
      try simp only [Act.put]
      try simp only [List.getElem_toArray]
      try simp only [List.getElem_cons_succ]
      try simp only [List.getElem_cons_zero]
      try simp only [List.setIfInBounds_toArray]
      try simp only [List.set_cons_succ, List.set_cons_zero]
      refine wpAnyH_take (i := 14) (v := .bool false) rfl (by kernel_rfl) (by kernel_rfl) (by kernel_rfl) (fun _ _ _ h => h) (Or.inl ⟨by kernel_rfl, fun w1 hSw => by clear hHeld; obtain ⟨f0, f1, f2, f3, f4, f5⟩ := HCe.out _ hSw; go_simp⟩) hHeld ?_
      try simp only [Act.put]
      try simp only [List.getElem_toArray]
      try simp only [List.getElem_cons_succ]
      try simp only [List.getElem_cons_zero]
      try simp only [List.setIfInBounds_toArray]
      try simp only [List.set_cons_succ, List.set_cons_zero]
      refine wpAnyH_take (i := 15) (v := .pointer (some ⟨b, 0, none⟩)) rfl (by kernel_rfl) (by kernel_rfl) (by kernel_rfl) (fun _ _ _ h => h) (Or.inl ⟨by kernel_rfl, fun w1 hSw => by clear hHeld; obtain ⟨f0, f1, f2, f3, f4, f5⟩ := HCe.out _ hSw; go_simp⟩) hHeld ?_
      try simp only [Act.put]
      try simp only [List.getElem_toArray]
      try simp only [List.getElem_cons_succ]
      try simp only [List.getElem_cons_zero]
      try simp only [List.setIfInBounds_toArray]
      try simp only [List.set_cons_succ, List.set_cons_zero]
      refine wpAnyH_take (i := 16) (v := .pointer (some ⟨w.heap.size, 12, none⟩)) rfl (by kernel_rfl) (by kernel_rfl) (by kernel_rfl) (fun _ _ _ h => h) (Or.inl ⟨by kernel_rfl, fun w1 hSw => by clear hHeld; obtain ⟨f0, f1, f2, f3, f4, f5⟩ := HCe.out _ hSw; go_simp⟩) hHeld ?_
      try simp only [Act.put]
      try simp only [List.getElem_toArray]
      try simp only [List.getElem_cons_succ]
      try simp only [List.getElem_cons_zero]
      try simp only [List.setIfInBounds_toArray]
      try simp only [List.set_cons_succ, List.set_cons_zero]
      refine wpAnyH_take (i := 17) (v := .slice q et.length cq) rfl (by kernel_rfl) (by kernel_rfl) (by kernel_rfl) (fun _ _ _ h => h) (Or.inl ⟨by kernel_rfl, fun w1 hSw => by clear hHeld; obtain ⟨f0, f1, f2, f3, f4, f5⟩ := HCe.out _ hSw; go_simp⟩) hHeld ?_
      try simp only [Act.put]
      try simp only [List.getElem_toArray]
      try simp only [List.getElem_cons_succ]
      try simp only [List.getElem_cons_zero]
      try simp only [List.setIfInBounds_toArray]
      try simp only [List.set_cons_succ, List.set_cons_zero]
      refine wpAnyH_take (i := 18) (v := .pointer (some ⟨w.heap.size, 5, none⟩)) rfl (by kernel_rfl) (by kernel_rfl) (by kernel_rfl) (fun _ _ _ h => h) (Or.inl ⟨by kernel_rfl, fun w1 hSw => by clear hHeld; obtain ⟨f0, f1, f2, f3, f4, f5⟩ := HCe.out _ hSw; go_simp⟩) hHeld ?_
      try simp only [Act.put]
      try simp only [List.getElem_toArray]
      try simp only [List.getElem_cons_succ]
      try simp only [List.getElem_cons_zero]
      try simp only [List.setIfInBounds_toArray]
      try simp only [List.set_cons_succ, List.set_cons_zero]
      refine wpAnyH_take (i := 19) (v := .int .i64 eb) rfl (by kernel_rfl) (by kernel_rfl) (by kernel_rfl) (fun _ _ _ h => h) (Or.inl ⟨by kernel_rfl, fun w1 hSw => by clear hHeld; obtain ⟨f0, f1, f2, f3, f4, f5⟩ := HCe.out _ hSw; go_simp⟩) hHeld ?_
      try simp only [Act.put]
      try simp only [List.getElem_toArray]
      try simp only [List.getElem_cons_succ]
      try simp only [List.getElem_cons_zero]
      try simp only [List.setIfInBounds_toArray]
      try simp only [List.set_cons_succ, List.set_cons_zero]
      refine wpAnyH_take (i := 20) (v := .pointer (some ⟨w.heap.size, 6, none⟩)) rfl (by kernel_rfl) (by kernel_rfl) (by kernel_rfl) (fun _ _ _ h => h) (Or.inl ⟨by kernel_rfl, fun w1 hSw => by clear hHeld; obtain ⟨f0, f1, f2, f3, f4, f5⟩ := HCe.out _ hSw; go_simp⟩) hHeld ?_
      try simp only [Act.put]
      try simp only [List.getElem_toArray]
      try simp only [List.getElem_cons_succ]
      try simp only [List.getElem_cons_zero]
      try simp only [List.setIfInBounds_toArray]
      try simp only [List.set_cons_succ, List.set_cons_zero]
      refine wpAnyH_take (i := 21) (v := .int .i64 ei) rfl (by kernel_rfl) (by kernel_rfl) (by kernel_rfl) (fun _ _ _ h => h) (Or.inl ⟨by kernel_rfl, fun w1 hSw => by clear hHeld; obtain ⟨f0, f1, f2, f3, f4, f5⟩ := HCe.out _ hSw; go_simp⟩) hHeld ?_
      try simp only [Act.put]
      try simp only [List.getElem_toArray]
      try simp only [List.getElem_cons_succ]
      try simp only [List.getElem_cons_zero]
      try simp only [List.setIfInBounds_toArray]
      try simp only [List.set_cons_succ, List.set_cons_zero]
      refine wpAnyH_ready (rs := [22]) (by kernel_rfl) (by simp) ?_
      refine AllReadyH.cons rfl (fun K hK => ?_) AllReadyH.nil
      go_simp
      refine (HAr.out _ hHeld.1).mono ?_
      rintro e V1 ⟨rfl, hb⟩
      have HS1 := hide (⟨below_of hHeld.1 hb, (hb.block _ (lt_of_block hHeld.2)).trans hHeld.2⟩ : _ ∧ _)
      have HY1 := hide (HY0.out.low hb)
      clear hb
      refine hK.out _ _ (HS1.out) (fun hHeld => ?_)
      clear hK K
      try simp only [Act.put]
      try simp only [List.getElem_toArray]
      try simp only [List.getElem_cons_succ]
      try simp only [List.getElem_cons_zero]
      try simp only [List.setIfInBounds_toArray]
      try simp only [List.set_cons_succ, List.set_cons_zero]
      refine wpAnyH_take (i := 23) (v := .bool (!ac)) rfl (by kernel_rfl) (by kernel_rfl) (by kernel_rfl) (fun _ _ _ h => h) (Or.inl ⟨by kernel_rfl, fun w1 hSw => by clear hHeld; obtain ⟨f0, f1, f2, f3, f4, f5⟩ := HCe.out _ hSw; go_simp⟩) hHeld ?_
      try simp only [Act.put]
      try simp only [List.getElem_toArray]
      try simp only [List.getElem_cons_succ]
      try simp only [List.getElem_cons_zero]
      try simp only [List.setIfInBounds_toArray]
      try simp only [List.set_cons_succ, List.set_cons_zero]
      refine wpAnyH_take (i := 24) (v := .bool (!ac)) rfl (by kernel_rfl) (by kernel_rfl) (by kernel_rfl) (fun _ _ _ h => h) (Or.inl ⟨by kernel_rfl, fun w1 hSw => by clear hHeld; obtain ⟨f0, f1, f2, f3, f4, f5⟩ := HCe.out _ hSw; go_simp⟩) hHeld ?_
      try simp only [Act.put]
      try simp only [List.getElem_toArray]
      try simp only [List.getElem_cons_succ]
      try simp only [List.getElem_cons_zero]
      try simp only [List.setIfInBounds_toArray]
      try simp only [List.set_cons_succ, List.set_cons_zero]
      refine wpAnyH_take (i := 25) (v := .pointer (some ⟨w.heap.size + 1, 5, none⟩)) rfl (by kernel_rfl) (by kernel_rfl) (by kernel_rfl) (fun _ _ _ h => h) (Or.inl ⟨by kernel_rfl, fun w1 hSw => by clear hHeld; obtain ⟨f0, f1, f2, f3, f4, f5⟩ := HCe.out _ hSw; go_simp⟩) hHeld ?_
      try simp only [Act.put]
      try simp only [List.getElem_toArray]
      try simp only [List.getElem_cons_succ]
      try simp only [List.getElem_cons_zero]
      try simp only [List.setIfInBounds_toArray]
      try simp only [List.set_cons_succ, List.set_cons_zero]
      refine wpAnyH_ready (rs := [26]) (by kernel_rfl) (by simp) ?_
      refine AllReadyH.cons rfl (fun K hK => ?_) AllReadyH.nil
      have sz : V1.frozen? ⟨w.heap.size + 1, 5, none⟩ = false := by simp [World.frozen?, HY1.out.ru]
      have sc : V1.cell? ⟨w.heap.size + 1, 5, none⟩ = some (.bool false) := by simp [World.cell?, HY1.out.ru]
      have HYs := hide (HY1.out.set 5 (.bool (!ac)))
      have HSs : Hid ((fun V => Below w.heap.size w V ∧ V.heap[w.heap.size]? = some (.cells #[.int .i64 ek, .int .i64 eo, .int .i64 en, .int .i64 el, .int .i64 ((i : Int) + 1), .int .i64 eb, .int .i64 ei, .int .i64 ec, .int .i64 es, .int .i64 er, .int .u64 ew, .string ex, .slice q et.length cq] 43 (0, 0))) (V1.setCell ⟨w.heap.size + 1, 5, none⟩ (.bool (!ac)))) := hide ⟨HYs.out.below, HYs.out.ev⟩
      clear hHeld
      go_simp
      refine hK.out _ _ (HSs.out) (fun hHeld => ?_)
      clear hK K
      try simp only [Act.put]
      try simp only [List.getElem_toArray]
      try simp only [List.getElem_cons_succ]
      try simp only [List.getElem_cons_zero]
      try simp only [List.setIfInBounds_toArray]
      try simp only [List.set_cons_succ, List.set_cons_zero]
      refine wpAnyH_done (by kernel_rfl) ?_ _
      go_upto_region 5 with (fail)
      obtain ⟨V, hV⟩ : ∃ V, V1.setCell ⟨w.heap.size + 1, 5, none⟩ (.bool (!ac)) = V := ⟨_, rfl⟩
      rw [hV] at HYs ⊢
      clear hV
      clear y0 y1 y2 y3 y4 y5 y6 y7 y8 yz
      have y0 : V.cell? ⟨w.heap.size + 1, 0, none⟩ = some (.bool false) := by simp [World.cell?, HYs.out.ru]
      have y1 : V.cell? ⟨w.heap.size + 1, 1, none⟩ = some (.bool false) := by simp [World.cell?, HYs.out.ru]
      have y2 : V.cell? ⟨w.heap.size + 1, 2, none⟩ = some (.bool false) := by simp [World.cell?, HYs.out.ru]
      have y3 : V.cell? ⟨w.heap.size + 1, 3, none⟩ = some (.bool false) := by simp [World.cell?, HYs.out.ru]
      have y4 : V.cell? ⟨w.heap.size + 1, 4, none⟩ = some (.bool false) := by simp [World.cell?, HYs.out.ru]
      have y5 : V.cell? ⟨w.heap.size + 1, 5, none⟩ = some (.bool (!ac)) := by simp [World.cell?, HYs.out.ru]
      have y6 : V.cell? ⟨w.heap.size + 1, 6, none⟩ = some (.bool false) := by simp [World.cell?, HYs.out.ru]
      have y7 : V.cell? ⟨w.heap.size + 1, 7, none⟩ = some (.bool false) := by simp [World.cell?, HYs.out.ru]
      have y8 : V.cell? ⟨w.heap.size + 1, 8, none⟩ = some (.bool false) := by simp [World.cell?, HYs.out.ru]
      have yz : ∀ k, V.frozen? ⟨w.heap.size + 1, k, none⟩ = false := fun k => by simp [World.frozen?, HYs.out.ru]
      have hru : V.heap[w.heap.size + 1]? = some (.cells #[.bool false, .bool false, .bool false, .bool false, .bool false, .bool (!ac), .bool false, .bool false, .bool false] 60 (0, 0)) := by simpa using HYs.out.ru
      have HR9 := hide (put9 hru)
      have HB9 := hide (below9 (c0 := .bool false) (c1 := .bool false) (c2 := .bool false) (c3 := .bool false) (c4 := .bool false) (c5 := .bool (!ac)) (c6 := .bool false) (c7 := .bool false) (c8 := .bool false) HYs.out.below (Nat.le_succ _))
      clear hru
      have HNE := hide hne
      clear hne
      go_wp2_with fail
      refine bodyPost_ret (results_rul (fn := Try.f38) rfl _ _ (w.heap.size + 1) #[.bool false, .bool false, .bool false, .bool false, .bool false, .bool (!ac), .bool false, .bool false, .bool false] rfl HR9.out rfl) rfl ?_
      exact ⟨by rw [← HAB.out, HNE.out]; rfl, HB9.out⟩
set_option maxHeartbeats 8000000 in
theorem recording_any (H : Hm w B b h s) (hi8 : i < 8) (ek eo en el : Int) (eb ei ec es er ew : Int) (ex : ByteArray) {et : List ByteArray} {q : Option Addr} {cq : Nat} (hb64 : i64 eb) (hr64 : i64 er) (hw64 : u64 ew) (hlg : ∀ j ∈ h.jobs, j.lg.length ≤ 1099511627776) :
    Calls Try.prog 40 #[.pointer (some ⟨b, 0, none⟩), .agg #[.int .i64 ek, .int .i64 eo, .int .i64 en, .int .i64 el, .int .i64 ((i : Int) + 1), .int .i64 eb, .int .i64 ei, .int .i64 ec, .int .i64 es, .int .i64 er, .int .u64 ew, .string ex, .slice q et.length cq]] w fun r w' => r = .returned (rul (stl h i) (!endW h i eb er ew) false (!stl h i && !hld h i eb) false (knw h i && !endA h i eb ((jat h i).lg.length : Int)) false false) ∧ Below w.heap.size w w' := by
  have HX := hide (Bx.start w #[.int .i64 ek, .int .i64 eo, .int .i64 en, .int .i64 el, .int .i64 ((i : Int) + 1), .int .i64 eb, .int .i64 ei, .int .i64 ec, .int .i64 es, .int .i64 er, .int .u64 ew, .string ex, .slice q et.length cq] #[.bool false, .bool false, .bool false, .bool false, .bool false, .bool false, .bool false, .bool false, .bool false])
  have H0 := hide H
  have l8 := H.l8
  have hbl : b < w.heap.size := H.lt
  have i8 : (i : Int) ≤ 8 := by omega
  have hji : i64 ((i : Int) + 1) := i64_of (by omega)
  clear H
  have HEw : Hid (∀ W, Below w.heap.size w W → Calls Try.prog 65 #[.pointer (some ⟨b, 0, none⟩), nr i, .int .i64 eb, .agg #[.int .i64 er, .int .u64 ew]] W fun r w' => r = .returned (.bool (endW h i eb er ew)) ∧ Below W.heap.size W w') := hide fun W hb => endedWith_any (H0.out.below hb) i eb er ew hji hb64 hr64 hw64
  have HSt : Hid (∀ W, Below w.heap.size w W → Calls Try.prog 63 #[.pointer (some ⟨b, 0, none⟩), nr i] W fun r w' => r = .returned (.bool (stl h i)) ∧ Below W.heap.size W w') := hide fun W hb => settled_any (H0.out.below hb) i
  have HH : Hid (∀ W, Below w.heap.size w W → Calls Try.prog 62 #[.pointer (some ⟨b, 0, none⟩), nr i, .int .i64 eb] W fun r w' => r = .returned (.bool (hld h i eb)) ∧ Below W.heap.size W w') := hide fun W hb => held_any (H0.out.below hb) i eb
  have HK : Hid (∀ W, Below w.heap.size w W → Calls Try.prog 61 #[.pointer (some ⟨b, 0, none⟩), nr i] W fun r w' => r = .returned (.bool (knw h i)) ∧ Below W.heap.size W w') := hide fun W hb => known_any (H0.out.below hb) i
  generalize stl h i = st at *
  generalize hld h i eb = hd at *
  generalize endW h i eb er ew = ew1 at *
  clear hr64 hw64
  cases hk : knw h i with
  | false =>
    rw [hk] at HK
    clear hk hb64 hlg
    cases st with
    | true =>
      go_enter Try.func40, Try.ntmps40
      go_wp2_with fail
      refine (HSt.out _ HX.out.below).mono ?_
      rintro e w1 ⟨rfl, hb⟩
      have HX1 := hide (HX.out.low hb)
      have x0 : w1.cell? ⟨w.heap.size, 0, none⟩ = some (.int .i64 ek) := by simp [World.cell?, HX1.out.ev]
      have x1 : w1.cell? ⟨w.heap.size, 1, none⟩ = some (.int .i64 eo) := by simp [World.cell?, HX1.out.ev]
      have x2 : w1.cell? ⟨w.heap.size, 2, none⟩ = some (.int .i64 en) := by simp [World.cell?, HX1.out.ev]
      have x3 : w1.cell? ⟨w.heap.size, 3, none⟩ = some (.int .i64 el) := by simp [World.cell?, HX1.out.ev]
      have x4 : w1.cell? ⟨w.heap.size, 4, none⟩ = some (.int .i64 ((i : Int) + 1)) := by simp [World.cell?, HX1.out.ev]
      have x5 : w1.cell? ⟨w.heap.size, 5, none⟩ = some (.int .i64 eb) := by simp [World.cell?, HX1.out.ev]
      have x6 : w1.cell? ⟨w.heap.size, 6, none⟩ = some (.int .i64 ei) := by simp [World.cell?, HX1.out.ev]
      have x7 : w1.cell? ⟨w.heap.size, 7, none⟩ = some (.int .i64 ec) := by simp [World.cell?, HX1.out.ev]
      have x8 : w1.cell? ⟨w.heap.size, 8, none⟩ = some (.int .i64 es) := by simp [World.cell?, HX1.out.ev]
      have x9 : w1.cell? ⟨w.heap.size, 9, none⟩ = some (.int .i64 er) := by simp [World.cell?, HX1.out.ev]
      have x10 : w1.cell? ⟨w.heap.size, 10, none⟩ = some (.int .u64 ew) := by simp [World.cell?, HX1.out.ev]
      have x11 : w1.cell? ⟨w.heap.size, 11, none⟩ = some (.string ex) := by simp [World.cell?, HX1.out.ev]
      have x12 : w1.cell? ⟨w.heap.size, 12, none⟩ = some (.slice q et.length cq) := by simp [World.cell?, HX1.out.ev]
      have y0 : w1.cell? ⟨w.heap.size + 1, 0, none⟩ = some (.bool false) := by simp [World.cell?, HX1.out.ru]
      have y1 : w1.cell? ⟨w.heap.size + 1, 1, none⟩ = some (.bool false) := by simp [World.cell?, HX1.out.ru]
      have y2 : w1.cell? ⟨w.heap.size + 1, 2, none⟩ = some (.bool false) := by simp [World.cell?, HX1.out.ru]
      have y3 : w1.cell? ⟨w.heap.size + 1, 3, none⟩ = some (.bool false) := by simp [World.cell?, HX1.out.ru]
      have y4 : w1.cell? ⟨w.heap.size + 1, 4, none⟩ = some (.bool false) := by simp [World.cell?, HX1.out.ru]
      have y5 : w1.cell? ⟨w.heap.size + 1, 5, none⟩ = some (.bool false) := by simp [World.cell?, HX1.out.ru]
      have y6 : w1.cell? ⟨w.heap.size + 1, 6, none⟩ = some (.bool false) := by simp [World.cell?, HX1.out.ru]
      have y7 : w1.cell? ⟨w.heap.size + 1, 7, none⟩ = some (.bool false) := by simp [World.cell?, HX1.out.ru]
      have y8 : w1.cell? ⟨w.heap.size + 1, 8, none⟩ = some (.bool false) := by simp [World.cell?, HX1.out.ru]
      have yz : ∀ k, w1.frozen? ⟨w.heap.size + 1, k, none⟩ = false := fun k => by simp [World.frozen?, HX1.out.ru]
      clear hb
      have HX2 := hide (HX1.out.set 1 (.bool true))
      go_wp2_with fail
      refine (HSt.out _ HX2.out.below).mono ?_
      rintro e w3 ⟨rfl, hb⟩
      have HX3 := hide (HX2.out.low hb)
      have x0 : w3.cell? ⟨w.heap.size, 0, none⟩ = some (.int .i64 ek) := by simp [World.cell?, HX3.out.ev]
      have x1 : w3.cell? ⟨w.heap.size, 1, none⟩ = some (.int .i64 eo) := by simp [World.cell?, HX3.out.ev]
      have x2 : w3.cell? ⟨w.heap.size, 2, none⟩ = some (.int .i64 en) := by simp [World.cell?, HX3.out.ev]
      have x3 : w3.cell? ⟨w.heap.size, 3, none⟩ = some (.int .i64 el) := by simp [World.cell?, HX3.out.ev]
      have x4 : w3.cell? ⟨w.heap.size, 4, none⟩ = some (.int .i64 ((i : Int) + 1)) := by simp [World.cell?, HX3.out.ev]
      have x5 : w3.cell? ⟨w.heap.size, 5, none⟩ = some (.int .i64 eb) := by simp [World.cell?, HX3.out.ev]
      have x6 : w3.cell? ⟨w.heap.size, 6, none⟩ = some (.int .i64 ei) := by simp [World.cell?, HX3.out.ev]
      have x7 : w3.cell? ⟨w.heap.size, 7, none⟩ = some (.int .i64 ec) := by simp [World.cell?, HX3.out.ev]
      have x8 : w3.cell? ⟨w.heap.size, 8, none⟩ = some (.int .i64 es) := by simp [World.cell?, HX3.out.ev]
      have x9 : w3.cell? ⟨w.heap.size, 9, none⟩ = some (.int .i64 er) := by simp [World.cell?, HX3.out.ev]
      have x10 : w3.cell? ⟨w.heap.size, 10, none⟩ = some (.int .u64 ew) := by simp [World.cell?, HX3.out.ev]
      have x11 : w3.cell? ⟨w.heap.size, 11, none⟩ = some (.string ex) := by simp [World.cell?, HX3.out.ev]
      have x12 : w3.cell? ⟨w.heap.size, 12, none⟩ = some (.slice q et.length cq) := by simp [World.cell?, HX3.out.ev]
      have y0 : w3.cell? ⟨w.heap.size + 1, 0, none⟩ = some (.bool false) := by simp [World.cell?, HX3.out.ru]
      have y1 : w3.cell? ⟨w.heap.size + 1, 1, none⟩ = some (.bool true) := by simp [World.cell?, HX3.out.ru]
      have y2 : w3.cell? ⟨w.heap.size + 1, 2, none⟩ = some (.bool false) := by simp [World.cell?, HX3.out.ru]
      have y3 : w3.cell? ⟨w.heap.size + 1, 3, none⟩ = some (.bool false) := by simp [World.cell?, HX3.out.ru]
      have y4 : w3.cell? ⟨w.heap.size + 1, 4, none⟩ = some (.bool false) := by simp [World.cell?, HX3.out.ru]
      have y5 : w3.cell? ⟨w.heap.size + 1, 5, none⟩ = some (.bool false) := by simp [World.cell?, HX3.out.ru]
      have y6 : w3.cell? ⟨w.heap.size + 1, 6, none⟩ = some (.bool false) := by simp [World.cell?, HX3.out.ru]
      have y7 : w3.cell? ⟨w.heap.size + 1, 7, none⟩ = some (.bool false) := by simp [World.cell?, HX3.out.ru]
      have y8 : w3.cell? ⟨w.heap.size + 1, 8, none⟩ = some (.bool false) := by simp [World.cell?, HX3.out.ru]
      have yz : ∀ k, w3.frozen? ⟨w.heap.size + 1, k, none⟩ = false := fun k => by simp [World.frozen?, HX3.out.ru]
      clear hb
      have HX4 := hide (HX3.out.set 4 (.bool false))
      go_wp2_with fail
      refine (HEw.out _ HX4.out.below).mono ?_
      rintro e w5 ⟨rfl, hb⟩
      have HX5 := hide (HX4.out.low hb)
      have x0 : w5.cell? ⟨w.heap.size, 0, none⟩ = some (.int .i64 ek) := by simp [World.cell?, HX5.out.ev]
      have x1 : w5.cell? ⟨w.heap.size, 1, none⟩ = some (.int .i64 eo) := by simp [World.cell?, HX5.out.ev]
      have x2 : w5.cell? ⟨w.heap.size, 2, none⟩ = some (.int .i64 en) := by simp [World.cell?, HX5.out.ev]
      have x3 : w5.cell? ⟨w.heap.size, 3, none⟩ = some (.int .i64 el) := by simp [World.cell?, HX5.out.ev]
      have x4 : w5.cell? ⟨w.heap.size, 4, none⟩ = some (.int .i64 ((i : Int) + 1)) := by simp [World.cell?, HX5.out.ev]
      have x5 : w5.cell? ⟨w.heap.size, 5, none⟩ = some (.int .i64 eb) := by simp [World.cell?, HX5.out.ev]
      have x6 : w5.cell? ⟨w.heap.size, 6, none⟩ = some (.int .i64 ei) := by simp [World.cell?, HX5.out.ev]
      have x7 : w5.cell? ⟨w.heap.size, 7, none⟩ = some (.int .i64 ec) := by simp [World.cell?, HX5.out.ev]
      have x8 : w5.cell? ⟨w.heap.size, 8, none⟩ = some (.int .i64 es) := by simp [World.cell?, HX5.out.ev]
      have x9 : w5.cell? ⟨w.heap.size, 9, none⟩ = some (.int .i64 er) := by simp [World.cell?, HX5.out.ev]
      have x10 : w5.cell? ⟨w.heap.size, 10, none⟩ = some (.int .u64 ew) := by simp [World.cell?, HX5.out.ev]
      have x11 : w5.cell? ⟨w.heap.size, 11, none⟩ = some (.string ex) := by simp [World.cell?, HX5.out.ev]
      have x12 : w5.cell? ⟨w.heap.size, 12, none⟩ = some (.slice q et.length cq) := by simp [World.cell?, HX5.out.ev]
      have y0 : w5.cell? ⟨w.heap.size + 1, 0, none⟩ = some (.bool false) := by simp [World.cell?, HX5.out.ru]
      have y1 : w5.cell? ⟨w.heap.size + 1, 1, none⟩ = some (.bool true) := by simp [World.cell?, HX5.out.ru]
      have y2 : w5.cell? ⟨w.heap.size + 1, 2, none⟩ = some (.bool false) := by simp [World.cell?, HX5.out.ru]
      have y3 : w5.cell? ⟨w.heap.size + 1, 3, none⟩ = some (.bool false) := by simp [World.cell?, HX5.out.ru]
      have y4 : w5.cell? ⟨w.heap.size + 1, 4, none⟩ = some (.bool false) := by simp [World.cell?, HX5.out.ru]
      have y5 : w5.cell? ⟨w.heap.size + 1, 5, none⟩ = some (.bool false) := by simp [World.cell?, HX5.out.ru]
      have y6 : w5.cell? ⟨w.heap.size + 1, 6, none⟩ = some (.bool false) := by simp [World.cell?, HX5.out.ru]
      have y7 : w5.cell? ⟨w.heap.size + 1, 7, none⟩ = some (.bool false) := by simp [World.cell?, HX5.out.ru]
      have y8 : w5.cell? ⟨w.heap.size + 1, 8, none⟩ = some (.bool false) := by simp [World.cell?, HX5.out.ru]
      have yz : ∀ k, w5.frozen? ⟨w.heap.size + 1, k, none⟩ = false := fun k => by simp [World.frozen?, HX5.out.ru]
      clear hb
      have HX6 := hide (HX5.out.set 2 (.bool (!ew1)))
      go_upto_region 4 with (fail)
      obtain ⟨W4, hV⟩ : ∃ V, w5.setCell ⟨w.heap.size + 1, 2, none⟩ (.bool (!ew1)) = V := ⟨_, rfl⟩
      rw [hV] at HX6 ⊢
      clear hV
      have HS0 : Hid ((fun V => Below w.heap.size w V ∧ V.heap[w.heap.size]? = some (.cells #[.int .i64 ek, .int .i64 eo, .int .i64 en, .int .i64 el, .int .i64 ((i : Int) + 1), .int .i64 eb, .int .i64 ei, .int .i64 ec, .int .i64 es, .int .i64 er, .int .u64 ew, .string ex, .slice q et.length cq] 43 (0, 0))) (W4.drew)) := hide ⟨HX6.out.below.drew, HX6.out.ev⟩
      have HY0 := hide (HX6.out.low (Below.refl _ _).drew)
      clear x0 x1 x2 x3 x4 x5 x6 x7 x8 x9 x10 x11 x12 y0 y1 y2 y3 y4 y5 y6 y7 y8 yz
      have HCe : Hid (∀ w' : World, (fun V => Below w.heap.size w V ∧ V.heap[w.heap.size]? = some (.cells #[.int .i64 ek, .int .i64 eo, .int .i64 en, .int .i64 el, .int .i64 ((i : Int) + 1), .int .i64 eb, .int .i64 ei, .int .i64 ec, .int .i64 es, .int .i64 er, .int .u64 ew, .string ex, .slice q et.length cq] 43 (0, 0))) w' → w'.cell? ⟨w.heap.size, 4, none⟩ = some (.int .i64 ((i : Int) + 1)) ∧ w'.cell? ⟨w.heap.size, 5, none⟩ = some (.int .i64 eb) ∧ w'.cell? ⟨w.heap.size, 6, none⟩ = some (.int .i64 ei) ∧ w'.cell? ⟨w.heap.size, 12, none⟩ = some (.slice q et.length cq)) := hide fun w' hw => ⟨by simp [World.cell?, hw.2], by simp [World.cell?, hw.2], by simp [World.cell?, hw.2], by simp [World.cell?, hw.2]⟩
      refine wp_region_held_drew (S := fun V => Below w.heap.size w V ∧ V.heap[w.heap.size]? = some (.cells #[.int .i64 ek, .int .i64 eo, .int .i64 en, .int .i64 el, .int .i64 ((i : Int) + 1), .int .i64 eb, .int .i64 ei, .int .i64 ec, .int .i64 es, .int .i64 er, .int .u64 ew, .string ex, .slice q et.length cq] 43 (0, 0))) (by kernel_rfl) (HS0.out) (fun hHeld => ?_)
      refine wpAnyH_take (i := 0) (v := .pointer (some ⟨b, 0, none⟩)) rfl (by kernel_rfl) (by kernel_rfl) (by kernel_rfl) (fun _ _ _ h => h) (Or.inl ⟨by kernel_rfl, fun w1 hSw => by clear hHeld; obtain ⟨f0, f1, f2, f3⟩ := HCe.out _ hSw; go_simp⟩) hHeld ?_
      try simp only [Act.put]
      try simp only [List.getElem_toArray]
      try simp only [List.getElem_cons_succ]
      try simp only [List.getElem_cons_zero]
      try simp only [List.setIfInBounds_toArray]
      try simp only [List.set_cons_succ, List.set_cons_zero]
      refine wpAnyH_take (i := 1) (v := .pointer (some ⟨w.heap.size, 4, none⟩)) rfl (by kernel_rfl) (by kernel_rfl) (by kernel_rfl) (fun _ _ _ h => h) (Or.inl ⟨by kernel_rfl, fun w1 hSw => by clear hHeld; obtain ⟨f0, f1, f2, f3⟩ := HCe.out _ hSw; go_simp⟩) hHeld ?_
      try simp only [Act.put]
      try simp only [List.getElem_toArray]
      try simp only [List.getElem_cons_succ]
      try simp only [List.getElem_cons_zero]
      try simp only [List.setIfInBounds_toArray]
      try simp only [List.set_cons_succ, List.set_cons_zero]
      refine wpAnyH_take (i := 2) (v := .int .i64 ((i : Int) + 1)) rfl (by kernel_rfl) (by kernel_rfl) (by kernel_rfl) (fun _ _ _ h => h) (Or.inl ⟨by kernel_rfl, fun w1 hSw => by clear hHeld; obtain ⟨f0, f1, f2, f3⟩ := HCe.out _ hSw; go_simp⟩) hHeld ?_
      try simp only [Act.put]
      try simp only [List.getElem_toArray]
      try simp only [List.getElem_cons_succ]
      try simp only [List.getElem_cons_zero]
      try simp only [List.setIfInBounds_toArray]
      try simp only [List.set_cons_succ, List.set_cons_zero]
      refine wpAnyH_ready (rs := [3]) (by kernel_rfl) (by simp) ?_
      refine AllReadyH.cons rfl (fun K hK => ?_) AllReadyH.nil
      go_simp
      refine (HK.out _ hHeld.1).mono ?_
      rintro e V1 ⟨rfl, hb⟩
      have HS1 := hide (⟨below_of hHeld.1 hb, (hb.block _ (lt_of_block hHeld.2)).trans hHeld.2⟩ : _ ∧ _)
      have HY1 := hide (HY0.out.low hb)
      clear hb
      refine hK.out _ _ (HS1.out) (fun hHeld => ?_)
      clear hK K
      try simp only [Act.put]
      try simp only [List.getElem_toArray]
      try simp only [List.getElem_cons_succ]
      try simp only [List.getElem_cons_zero]
      try simp only [List.setIfInBounds_toArray]
      try simp only [List.set_cons_succ, List.set_cons_zero]
      refine wpAnyH_take (i := 4) (v := .bool false) rfl (by kernel_rfl) (by kernel_rfl) (by kernel_rfl) (fun _ _ _ h => h) (Or.inl ⟨by kernel_rfl, fun w1 hSw => by clear hHeld; obtain ⟨f0, f1, f2, f3⟩ := HCe.out _ hSw; go_simp⟩) hHeld ?_
      try simp only [Act.put]
      try simp only [List.getElem_toArray]
      try simp only [List.getElem_cons_succ]
      try simp only [List.getElem_cons_zero]
      try simp only [List.setIfInBounds_toArray]
      try simp only [List.set_cons_succ, List.set_cons_zero]
      refine wpAnyH_take (i := 5) (v := undef) rfl (by kernel_rfl) (by kernel_rfl) (by kernel_rfl) (fun _ _ _ h => h) (Or.inr ⟨by kernel_rfl, rfl⟩) hHeld ?_
      try simp only [Act.put]
      try simp only [List.getElem_toArray]
      try simp only [List.getElem_cons_succ]
      try simp only [List.getElem_cons_zero]
      try simp only [List.setIfInBounds_toArray]
      try simp only [List.set_cons_succ, List.set_cons_zero]
      refine wpAnyH_take (i := 6) (v := undef) rfl (by kernel_rfl) (by kernel_rfl) (by kernel_rfl) (fun _ _ _ h => h) (Or.inr ⟨by kernel_rfl, rfl⟩) hHeld ?_
      try simp only [Act.put]
      try simp only [List.getElem_toArray]
      try simp only [List.getElem_cons_succ]
      try simp only [List.getElem_cons_zero]
      try simp only [List.setIfInBounds_toArray]
      try simp only [List.set_cons_succ, List.set_cons_zero]
      refine wpAnyH_take (i := 7) (v := undef) rfl (by kernel_rfl) (by kernel_rfl) (by kernel_rfl) (fun _ _ _ h => h) (Or.inr ⟨by kernel_rfl, rfl⟩) hHeld ?_
      try simp only [Act.put]
      try simp only [List.getElem_toArray]
      try simp only [List.getElem_cons_succ]
      try simp only [List.getElem_cons_zero]
      try simp only [List.setIfInBounds_toArray]
      try simp only [List.set_cons_succ, List.set_cons_zero]
      refine wpAnyH_take (i := 8) (v := undef) rfl (by kernel_rfl) (by kernel_rfl) (by kernel_rfl) (fun _ _ _ h => h) (Or.inr ⟨by kernel_rfl, rfl⟩) hHeld ?_
      try simp only [Act.put]
      try simp only [List.getElem_toArray]
      try simp only [List.getElem_cons_succ]
      try simp only [List.getElem_cons_zero]
      try simp only [List.setIfInBounds_toArray]
      try simp only [List.set_cons_succ, List.set_cons_zero]
      refine wpAnyH_take (i := 9) (v := undef) rfl (by kernel_rfl) (by kernel_rfl) (by kernel_rfl) (fun _ _ _ h => h) (Or.inr ⟨by kernel_rfl, rfl⟩) hHeld ?_
      try simp only [Act.put]
      try simp only [List.getElem_toArray]
      try simp only [List.getElem_cons_succ]
      try simp only [List.getElem_cons_zero]
      try simp only [List.setIfInBounds_toArray]
      try simp only [List.set_cons_succ, List.set_cons_zero]
      refine wpAnyH_take (i := 10) (v := undef) rfl (by kernel_rfl) (by kernel_rfl) (by kernel_rfl) (fun _ _ _ h => h) (Or.inr ⟨by kernel_rfl, rfl⟩) hHeld ?_
      try simp only [Act.put]
      try simp only [List.getElem_toArray]
      try simp only [List.getElem_cons_succ]
      try simp only [List.getElem_cons_zero]
      try simp only [List.setIfInBounds_toArray]
      try simp only [List.set_cons_succ, List.set_cons_zero]
      refine wpAnyH_take (i := 11) (v := undef) rfl (by kernel_rfl) (by kernel_rfl) (by kernel_rfl) (fun _ _ _ h => h) (Or.inr ⟨by kernel_rfl, rfl⟩) hHeld ?_
      try simp only [Act.put]
      try simp only [List.getElem_toArray]
      try simp only [List.getElem_cons_succ]
      try simp only [List.getElem_cons_zero]
      try simp only [List.setIfInBounds_toArray]
      try simp only [List.set_cons_succ, List.set_cons_zero]
      refine wpAnyH_take (i := 12) (v := undef) rfl (by kernel_rfl) (by kernel_rfl) (by kernel_rfl) (fun _ _ _ h => h) (Or.inr ⟨by kernel_rfl, rfl⟩) hHeld ?_
      try simp only [Act.put]
      try simp only [List.getElem_toArray]
      try simp only [List.getElem_cons_succ]
      try simp only [List.getElem_cons_zero]
      try simp only [List.setIfInBounds_toArray]
      try simp only [List.set_cons_succ, List.set_cons_zero]
      refine wpAnyH_take (i := 13) (v := undef) rfl (by kernel_rfl) (by kernel_rfl) (by kernel_rfl) (fun _ _ _ h => h) (Or.inr ⟨by kernel_rfl, rfl⟩) hHeld ?_
      try simp only [Act.put]
      try simp only [List.getElem_toArray]
      try simp only [List.getElem_cons_succ]
      try simp only [List.getElem_cons_zero]
      try simp only [List.setIfInBounds_toArray]
      try simp only [List.set_cons_succ, List.set_cons_zero]
      refine wpAnyH_take (i := 14) (v := undef) rfl (by kernel_rfl) (by kernel_rfl) (by kernel_rfl) (fun _ _ _ h => h) (Or.inr ⟨by kernel_rfl, rfl⟩) hHeld ?_
      try simp only [Act.put]
      try simp only [List.getElem_toArray]
      try simp only [List.getElem_cons_succ]
      try simp only [List.getElem_cons_zero]
      try simp only [List.setIfInBounds_toArray]
      try simp only [List.set_cons_succ, List.set_cons_zero]
      refine wpAnyH_take (i := 15) (v := undef) rfl (by kernel_rfl) (by kernel_rfl) (by kernel_rfl) (fun _ _ _ h => h) (Or.inr ⟨by kernel_rfl, rfl⟩) hHeld ?_
      try simp only [Act.put]
      try simp only [List.getElem_toArray]
      try simp only [List.getElem_cons_succ]
      try simp only [List.getElem_cons_zero]
      try simp only [List.setIfInBounds_toArray]
      try simp only [List.set_cons_succ, List.set_cons_zero]
      refine wpAnyH_take (i := 16) (v := undef) rfl (by kernel_rfl) (by kernel_rfl) (by kernel_rfl) (fun _ _ _ h => h) (Or.inr ⟨by kernel_rfl, rfl⟩) hHeld ?_
      try simp only [Act.put]
      try simp only [List.getElem_toArray]
      try simp only [List.getElem_cons_succ]
      try simp only [List.getElem_cons_zero]
      try simp only [List.setIfInBounds_toArray]
      try simp only [List.set_cons_succ, List.set_cons_zero]
      refine wpAnyH_take (i := 17) (v := undef) rfl (by kernel_rfl) (by kernel_rfl) (by kernel_rfl) (fun _ _ _ h => h) (Or.inr ⟨by kernel_rfl, rfl⟩) hHeld ?_
      try simp only [Act.put]
      try simp only [List.getElem_toArray]
      try simp only [List.getElem_cons_succ]
      try simp only [List.getElem_cons_zero]
      try simp only [List.setIfInBounds_toArray]
      try simp only [List.set_cons_succ, List.set_cons_zero]
      refine wpAnyH_take (i := 18) (v := undef) rfl (by kernel_rfl) (by kernel_rfl) (by kernel_rfl) (fun _ _ _ h => h) (Or.inr ⟨by kernel_rfl, rfl⟩) hHeld ?_
      try simp only [Act.put]
      try simp only [List.getElem_toArray]
      try simp only [List.getElem_cons_succ]
      try simp only [List.getElem_cons_zero]
      try simp only [List.setIfInBounds_toArray]
      try simp only [List.set_cons_succ, List.set_cons_zero]
      refine wpAnyH_take (i := 19) (v := undef) rfl (by kernel_rfl) (by kernel_rfl) (by kernel_rfl) (fun _ _ _ h => h) (Or.inr ⟨by kernel_rfl, rfl⟩) hHeld ?_
      try simp only [Act.put]
      try simp only [List.getElem_toArray]
      try simp only [List.getElem_cons_succ]
      try simp only [List.getElem_cons_zero]
      try simp only [List.setIfInBounds_toArray]
      try simp only [List.set_cons_succ, List.set_cons_zero]
      refine wpAnyH_take (i := 20) (v := undef) rfl (by kernel_rfl) (by kernel_rfl) (by kernel_rfl) (fun _ _ _ h => h) (Or.inr ⟨by kernel_rfl, rfl⟩) hHeld ?_
      try simp only [Act.put]
      try simp only [List.getElem_toArray]
      try simp only [List.getElem_cons_succ]
      try simp only [List.getElem_cons_zero]
      try simp only [List.setIfInBounds_toArray]
      try simp only [List.set_cons_succ, List.set_cons_zero]
      refine wpAnyH_take (i := 21) (v := undef) rfl (by kernel_rfl) (by kernel_rfl) (by kernel_rfl) (fun _ _ _ h => h) (Or.inr ⟨by kernel_rfl, rfl⟩) hHeld ?_
      try simp only [Act.put]
      try simp only [List.getElem_toArray]
      try simp only [List.getElem_cons_succ]
      try simp only [List.getElem_cons_zero]
      try simp only [List.setIfInBounds_toArray]
      try simp only [List.set_cons_succ, List.set_cons_zero]
      refine wpAnyH_take (i := 22) (v := undef) rfl (by kernel_rfl) (by kernel_rfl) (by kernel_rfl) (fun _ _ _ h => h) (Or.inr ⟨by kernel_rfl, rfl⟩) hHeld ?_
      try simp only [Act.put]
      try simp only [List.getElem_toArray]
      try simp only [List.getElem_cons_succ]
      try simp only [List.getElem_cons_zero]
      try simp only [List.setIfInBounds_toArray]
      try simp only [List.set_cons_succ, List.set_cons_zero]
      refine wpAnyH_take (i := 23) (v := .bool false) rfl (by kernel_rfl) (by kernel_rfl) (by kernel_rfl) (fun _ _ _ h => h) (Or.inl ⟨by kernel_rfl, fun w1 hSw => by clear hHeld; obtain ⟨f0, f1, f2, f3⟩ := HCe.out _ hSw; go_simp⟩) hHeld ?_
      try simp only [Act.put]
      try simp only [List.getElem_toArray]
      try simp only [List.getElem_cons_succ]
      try simp only [List.getElem_cons_zero]
      try simp only [List.setIfInBounds_toArray]
      try simp only [List.set_cons_succ, List.set_cons_zero]
      refine wpAnyH_take (i := 24) (v := .pointer (some ⟨w.heap.size + 1, 6, none⟩)) rfl (by kernel_rfl) (by kernel_rfl) (by kernel_rfl) (fun _ _ _ h => h) (Or.inl ⟨by kernel_rfl, fun w1 hSw => by clear hHeld; obtain ⟨f0, f1, f2, f3⟩ := HCe.out _ hSw; go_simp⟩) hHeld ?_
      try simp only [Act.put]
      try simp only [List.getElem_toArray]
      try simp only [List.getElem_cons_succ]
      try simp only [List.getElem_cons_zero]
      try simp only [List.setIfInBounds_toArray]
      try simp only [List.set_cons_succ, List.set_cons_zero]
      refine wpAnyH_ready (rs := [25]) (by kernel_rfl) (by simp) ?_
      refine AllReadyH.cons rfl (fun K hK => ?_) AllReadyH.nil
      have sz : V1.frozen? ⟨w.heap.size + 1, 6, none⟩ = false := by simp [World.frozen?, HY1.out.ru]
      have sc : V1.cell? ⟨w.heap.size + 1, 6, none⟩ = some (.bool false) := by simp [World.cell?, HY1.out.ru]
      have HYs := hide (HY1.out.set 6 (.bool false))
      have HSs : Hid ((fun V => Below w.heap.size w V ∧ V.heap[w.heap.size]? = some (.cells #[.int .i64 ek, .int .i64 eo, .int .i64 en, .int .i64 el, .int .i64 ((i : Int) + 1), .int .i64 eb, .int .i64 ei, .int .i64 ec, .int .i64 es, .int .i64 er, .int .u64 ew, .string ex, .slice q et.length cq] 43 (0, 0))) (V1.setCell ⟨w.heap.size + 1, 6, none⟩ (.bool false))) := hide ⟨HYs.out.below, HYs.out.ev⟩
      clear hHeld
      go_simp
      refine hK.out _ _ (HSs.out) (fun hHeld => ?_)
      clear hK K
      try simp only [Act.put]
      try simp only [List.getElem_toArray]
      try simp only [List.getElem_cons_succ]
      try simp only [List.getElem_cons_zero]
      try simp only [List.setIfInBounds_toArray]
      try simp only [List.set_cons_succ, List.set_cons_zero]
      refine wpAnyH_done (by kernel_rfl) ?_ _
      have y0 := True.intro
      have y1 := True.intro
      have y2 := True.intro
      have y3 := True.intro
      have y4 := True.intro
      have y5 := True.intro
      have y6 := True.intro
      have y7 := True.intro
      have y8 := True.intro
      have yz := True.intro
      go_upto_region 5 with (fail)
      obtain ⟨V, hV⟩ : ∃ V, V1.setCell ⟨w.heap.size + 1, 6, none⟩ (.bool false) = V := ⟨_, rfl⟩
      rw [hV] at HYs ⊢
      clear hV
      clear y0 y1 y2 y3 y4 y5 y6 y7 y8 yz
      have y0 : V.cell? ⟨w.heap.size + 1, 0, none⟩ = some (.bool false) := by simp [World.cell?, HYs.out.ru]
      have y1 : V.cell? ⟨w.heap.size + 1, 1, none⟩ = some (.bool true) := by simp [World.cell?, HYs.out.ru]
      have y2 : V.cell? ⟨w.heap.size + 1, 2, none⟩ = some (.bool (!ew1)) := by simp [World.cell?, HYs.out.ru]
      have y3 : V.cell? ⟨w.heap.size + 1, 3, none⟩ = some (.bool false) := by simp [World.cell?, HYs.out.ru]
      have y4 : V.cell? ⟨w.heap.size + 1, 4, none⟩ = some (.bool false) := by simp [World.cell?, HYs.out.ru]
      have y5 : V.cell? ⟨w.heap.size + 1, 5, none⟩ = some (.bool false) := by simp [World.cell?, HYs.out.ru]
      have y6 : V.cell? ⟨w.heap.size + 1, 6, none⟩ = some (.bool false) := by simp [World.cell?, HYs.out.ru]
      have y7 : V.cell? ⟨w.heap.size + 1, 7, none⟩ = some (.bool false) := by simp [World.cell?, HYs.out.ru]
      have y8 : V.cell? ⟨w.heap.size + 1, 8, none⟩ = some (.bool false) := by simp [World.cell?, HYs.out.ru]
      have yz : ∀ k, V.frozen? ⟨w.heap.size + 1, k, none⟩ = false := fun k => by simp [World.frozen?, HYs.out.ru]
      have hru : V.heap[w.heap.size + 1]? = some (.cells #[.bool false, .bool true, .bool (!ew1), .bool false, .bool false, .bool false, .bool false, .bool false, .bool false] 60 (0, 0)) := by simpa using HYs.out.ru
      have HR9 := hide (put9 hru)
      have HB9 := hide (below9 (c0 := .bool false) (c1 := .bool true) (c2 := .bool (!ew1)) (c3 := .bool false) (c4 := .bool false) (c5 := .bool false) (c6 := .bool false) (c7 := .bool false) (c8 := .bool false) HYs.out.below (Nat.le_succ _))
      clear hru
      go_wp2_with fail
      refine bodyPost_ret (results_rul (fn := Try.f40) rfl _ _ (w.heap.size + 1) #[.bool false, .bool true, .bool (!ew1), .bool false, .bool false, .bool false, .bool false, .bool false, .bool false] rfl HR9.out rfl) rfl ?_
      exact ⟨rfl, HB9.out⟩
    | false =>
      go_enter Try.func40, Try.ntmps40
      go_wp2_with fail
      refine (HSt.out _ HX.out.below).mono ?_
      rintro e w1 ⟨rfl, hb⟩
      have HX1 := hide (HX.out.low hb)
      have x0 : w1.cell? ⟨w.heap.size, 0, none⟩ = some (.int .i64 ek) := by simp [World.cell?, HX1.out.ev]
      have x1 : w1.cell? ⟨w.heap.size, 1, none⟩ = some (.int .i64 eo) := by simp [World.cell?, HX1.out.ev]
      have x2 : w1.cell? ⟨w.heap.size, 2, none⟩ = some (.int .i64 en) := by simp [World.cell?, HX1.out.ev]
      have x3 : w1.cell? ⟨w.heap.size, 3, none⟩ = some (.int .i64 el) := by simp [World.cell?, HX1.out.ev]
      have x4 : w1.cell? ⟨w.heap.size, 4, none⟩ = some (.int .i64 ((i : Int) + 1)) := by simp [World.cell?, HX1.out.ev]
      have x5 : w1.cell? ⟨w.heap.size, 5, none⟩ = some (.int .i64 eb) := by simp [World.cell?, HX1.out.ev]
      have x6 : w1.cell? ⟨w.heap.size, 6, none⟩ = some (.int .i64 ei) := by simp [World.cell?, HX1.out.ev]
      have x7 : w1.cell? ⟨w.heap.size, 7, none⟩ = some (.int .i64 ec) := by simp [World.cell?, HX1.out.ev]
      have x8 : w1.cell? ⟨w.heap.size, 8, none⟩ = some (.int .i64 es) := by simp [World.cell?, HX1.out.ev]
      have x9 : w1.cell? ⟨w.heap.size, 9, none⟩ = some (.int .i64 er) := by simp [World.cell?, HX1.out.ev]
      have x10 : w1.cell? ⟨w.heap.size, 10, none⟩ = some (.int .u64 ew) := by simp [World.cell?, HX1.out.ev]
      have x11 : w1.cell? ⟨w.heap.size, 11, none⟩ = some (.string ex) := by simp [World.cell?, HX1.out.ev]
      have x12 : w1.cell? ⟨w.heap.size, 12, none⟩ = some (.slice q et.length cq) := by simp [World.cell?, HX1.out.ev]
      have y0 : w1.cell? ⟨w.heap.size + 1, 0, none⟩ = some (.bool false) := by simp [World.cell?, HX1.out.ru]
      have y1 : w1.cell? ⟨w.heap.size + 1, 1, none⟩ = some (.bool false) := by simp [World.cell?, HX1.out.ru]
      have y2 : w1.cell? ⟨w.heap.size + 1, 2, none⟩ = some (.bool false) := by simp [World.cell?, HX1.out.ru]
      have y3 : w1.cell? ⟨w.heap.size + 1, 3, none⟩ = some (.bool false) := by simp [World.cell?, HX1.out.ru]
      have y4 : w1.cell? ⟨w.heap.size + 1, 4, none⟩ = some (.bool false) := by simp [World.cell?, HX1.out.ru]
      have y5 : w1.cell? ⟨w.heap.size + 1, 5, none⟩ = some (.bool false) := by simp [World.cell?, HX1.out.ru]
      have y6 : w1.cell? ⟨w.heap.size + 1, 6, none⟩ = some (.bool false) := by simp [World.cell?, HX1.out.ru]
      have y7 : w1.cell? ⟨w.heap.size + 1, 7, none⟩ = some (.bool false) := by simp [World.cell?, HX1.out.ru]
      have y8 : w1.cell? ⟨w.heap.size + 1, 8, none⟩ = some (.bool false) := by simp [World.cell?, HX1.out.ru]
      have yz : ∀ k, w1.frozen? ⟨w.heap.size + 1, k, none⟩ = false := fun k => by simp [World.frozen?, HX1.out.ru]
      clear hb
      have HX2 := hide (HX1.out.set 1 (.bool false))
      go_wp2_with fail
      refine (HSt.out _ HX2.out.below).mono ?_
      rintro e w3 ⟨rfl, hb⟩
      have HX3 := hide (HX2.out.low hb)
      have x0 : w3.cell? ⟨w.heap.size, 0, none⟩ = some (.int .i64 ek) := by simp [World.cell?, HX3.out.ev]
      have x1 : w3.cell? ⟨w.heap.size, 1, none⟩ = some (.int .i64 eo) := by simp [World.cell?, HX3.out.ev]
      have x2 : w3.cell? ⟨w.heap.size, 2, none⟩ = some (.int .i64 en) := by simp [World.cell?, HX3.out.ev]
      have x3 : w3.cell? ⟨w.heap.size, 3, none⟩ = some (.int .i64 el) := by simp [World.cell?, HX3.out.ev]
      have x4 : w3.cell? ⟨w.heap.size, 4, none⟩ = some (.int .i64 ((i : Int) + 1)) := by simp [World.cell?, HX3.out.ev]
      have x5 : w3.cell? ⟨w.heap.size, 5, none⟩ = some (.int .i64 eb) := by simp [World.cell?, HX3.out.ev]
      have x6 : w3.cell? ⟨w.heap.size, 6, none⟩ = some (.int .i64 ei) := by simp [World.cell?, HX3.out.ev]
      have x7 : w3.cell? ⟨w.heap.size, 7, none⟩ = some (.int .i64 ec) := by simp [World.cell?, HX3.out.ev]
      have x8 : w3.cell? ⟨w.heap.size, 8, none⟩ = some (.int .i64 es) := by simp [World.cell?, HX3.out.ev]
      have x9 : w3.cell? ⟨w.heap.size, 9, none⟩ = some (.int .i64 er) := by simp [World.cell?, HX3.out.ev]
      have x10 : w3.cell? ⟨w.heap.size, 10, none⟩ = some (.int .u64 ew) := by simp [World.cell?, HX3.out.ev]
      have x11 : w3.cell? ⟨w.heap.size, 11, none⟩ = some (.string ex) := by simp [World.cell?, HX3.out.ev]
      have x12 : w3.cell? ⟨w.heap.size, 12, none⟩ = some (.slice q et.length cq) := by simp [World.cell?, HX3.out.ev]
      have y0 : w3.cell? ⟨w.heap.size + 1, 0, none⟩ = some (.bool false) := by simp [World.cell?, HX3.out.ru]
      have y1 : w3.cell? ⟨w.heap.size + 1, 1, none⟩ = some (.bool false) := by simp [World.cell?, HX3.out.ru]
      have y2 : w3.cell? ⟨w.heap.size + 1, 2, none⟩ = some (.bool false) := by simp [World.cell?, HX3.out.ru]
      have y3 : w3.cell? ⟨w.heap.size + 1, 3, none⟩ = some (.bool false) := by simp [World.cell?, HX3.out.ru]
      have y4 : w3.cell? ⟨w.heap.size + 1, 4, none⟩ = some (.bool false) := by simp [World.cell?, HX3.out.ru]
      have y5 : w3.cell? ⟨w.heap.size + 1, 5, none⟩ = some (.bool false) := by simp [World.cell?, HX3.out.ru]
      have y6 : w3.cell? ⟨w.heap.size + 1, 6, none⟩ = some (.bool false) := by simp [World.cell?, HX3.out.ru]
      have y7 : w3.cell? ⟨w.heap.size + 1, 7, none⟩ = some (.bool false) := by simp [World.cell?, HX3.out.ru]
      have y8 : w3.cell? ⟨w.heap.size + 1, 8, none⟩ = some (.bool false) := by simp [World.cell?, HX3.out.ru]
      have yz : ∀ k, w3.frozen? ⟨w.heap.size + 1, k, none⟩ = false := fun k => by simp [World.frozen?, HX3.out.ru]
      clear hb
      go_wp2_with fail
      refine (HH.out _ HX3.out.below).mono ?_
      rintro e w4 ⟨rfl, hb⟩
      have HX4 := hide (HX3.out.low hb)
      have x0 : w4.cell? ⟨w.heap.size, 0, none⟩ = some (.int .i64 ek) := by simp [World.cell?, HX4.out.ev]
      have x1 : w4.cell? ⟨w.heap.size, 1, none⟩ = some (.int .i64 eo) := by simp [World.cell?, HX4.out.ev]
      have x2 : w4.cell? ⟨w.heap.size, 2, none⟩ = some (.int .i64 en) := by simp [World.cell?, HX4.out.ev]
      have x3 : w4.cell? ⟨w.heap.size, 3, none⟩ = some (.int .i64 el) := by simp [World.cell?, HX4.out.ev]
      have x4 : w4.cell? ⟨w.heap.size, 4, none⟩ = some (.int .i64 ((i : Int) + 1)) := by simp [World.cell?, HX4.out.ev]
      have x5 : w4.cell? ⟨w.heap.size, 5, none⟩ = some (.int .i64 eb) := by simp [World.cell?, HX4.out.ev]
      have x6 : w4.cell? ⟨w.heap.size, 6, none⟩ = some (.int .i64 ei) := by simp [World.cell?, HX4.out.ev]
      have x7 : w4.cell? ⟨w.heap.size, 7, none⟩ = some (.int .i64 ec) := by simp [World.cell?, HX4.out.ev]
      have x8 : w4.cell? ⟨w.heap.size, 8, none⟩ = some (.int .i64 es) := by simp [World.cell?, HX4.out.ev]
      have x9 : w4.cell? ⟨w.heap.size, 9, none⟩ = some (.int .i64 er) := by simp [World.cell?, HX4.out.ev]
      have x10 : w4.cell? ⟨w.heap.size, 10, none⟩ = some (.int .u64 ew) := by simp [World.cell?, HX4.out.ev]
      have x11 : w4.cell? ⟨w.heap.size, 11, none⟩ = some (.string ex) := by simp [World.cell?, HX4.out.ev]
      have x12 : w4.cell? ⟨w.heap.size, 12, none⟩ = some (.slice q et.length cq) := by simp [World.cell?, HX4.out.ev]
      have y0 : w4.cell? ⟨w.heap.size + 1, 0, none⟩ = some (.bool false) := by simp [World.cell?, HX4.out.ru]
      have y1 : w4.cell? ⟨w.heap.size + 1, 1, none⟩ = some (.bool false) := by simp [World.cell?, HX4.out.ru]
      have y2 : w4.cell? ⟨w.heap.size + 1, 2, none⟩ = some (.bool false) := by simp [World.cell?, HX4.out.ru]
      have y3 : w4.cell? ⟨w.heap.size + 1, 3, none⟩ = some (.bool false) := by simp [World.cell?, HX4.out.ru]
      have y4 : w4.cell? ⟨w.heap.size + 1, 4, none⟩ = some (.bool false) := by simp [World.cell?, HX4.out.ru]
      have y5 : w4.cell? ⟨w.heap.size + 1, 5, none⟩ = some (.bool false) := by simp [World.cell?, HX4.out.ru]
      have y6 : w4.cell? ⟨w.heap.size + 1, 6, none⟩ = some (.bool false) := by simp [World.cell?, HX4.out.ru]
      have y7 : w4.cell? ⟨w.heap.size + 1, 7, none⟩ = some (.bool false) := by simp [World.cell?, HX4.out.ru]
      have y8 : w4.cell? ⟨w.heap.size + 1, 8, none⟩ = some (.bool false) := by simp [World.cell?, HX4.out.ru]
      have yz : ∀ k, w4.frozen? ⟨w.heap.size + 1, k, none⟩ = false := fun k => by simp [World.frozen?, HX4.out.ru]
      clear hb
      have HX5 := hide (HX4.out.set 4 (.bool (!hd)))
      go_wp2_with fail
      refine (HEw.out _ HX5.out.below).mono ?_
      rintro e w6 ⟨rfl, hb⟩
      have HX6 := hide (HX5.out.low hb)
      have x0 : w6.cell? ⟨w.heap.size, 0, none⟩ = some (.int .i64 ek) := by simp [World.cell?, HX6.out.ev]
      have x1 : w6.cell? ⟨w.heap.size, 1, none⟩ = some (.int .i64 eo) := by simp [World.cell?, HX6.out.ev]
      have x2 : w6.cell? ⟨w.heap.size, 2, none⟩ = some (.int .i64 en) := by simp [World.cell?, HX6.out.ev]
      have x3 : w6.cell? ⟨w.heap.size, 3, none⟩ = some (.int .i64 el) := by simp [World.cell?, HX6.out.ev]
      have x4 : w6.cell? ⟨w.heap.size, 4, none⟩ = some (.int .i64 ((i : Int) + 1)) := by simp [World.cell?, HX6.out.ev]
      have x5 : w6.cell? ⟨w.heap.size, 5, none⟩ = some (.int .i64 eb) := by simp [World.cell?, HX6.out.ev]
      have x6 : w6.cell? ⟨w.heap.size, 6, none⟩ = some (.int .i64 ei) := by simp [World.cell?, HX6.out.ev]
      have x7 : w6.cell? ⟨w.heap.size, 7, none⟩ = some (.int .i64 ec) := by simp [World.cell?, HX6.out.ev]
      have x8 : w6.cell? ⟨w.heap.size, 8, none⟩ = some (.int .i64 es) := by simp [World.cell?, HX6.out.ev]
      have x9 : w6.cell? ⟨w.heap.size, 9, none⟩ = some (.int .i64 er) := by simp [World.cell?, HX6.out.ev]
      have x10 : w6.cell? ⟨w.heap.size, 10, none⟩ = some (.int .u64 ew) := by simp [World.cell?, HX6.out.ev]
      have x11 : w6.cell? ⟨w.heap.size, 11, none⟩ = some (.string ex) := by simp [World.cell?, HX6.out.ev]
      have x12 : w6.cell? ⟨w.heap.size, 12, none⟩ = some (.slice q et.length cq) := by simp [World.cell?, HX6.out.ev]
      have y0 : w6.cell? ⟨w.heap.size + 1, 0, none⟩ = some (.bool false) := by simp [World.cell?, HX6.out.ru]
      have y1 : w6.cell? ⟨w.heap.size + 1, 1, none⟩ = some (.bool false) := by simp [World.cell?, HX6.out.ru]
      have y2 : w6.cell? ⟨w.heap.size + 1, 2, none⟩ = some (.bool false) := by simp [World.cell?, HX6.out.ru]
      have y3 : w6.cell? ⟨w.heap.size + 1, 3, none⟩ = some (.bool false) := by simp [World.cell?, HX6.out.ru]
      have y4 : w6.cell? ⟨w.heap.size + 1, 4, none⟩ = some (.bool (!hd)) := by simp [World.cell?, HX6.out.ru]
      have y5 : w6.cell? ⟨w.heap.size + 1, 5, none⟩ = some (.bool false) := by simp [World.cell?, HX6.out.ru]
      have y6 : w6.cell? ⟨w.heap.size + 1, 6, none⟩ = some (.bool false) := by simp [World.cell?, HX6.out.ru]
      have y7 : w6.cell? ⟨w.heap.size + 1, 7, none⟩ = some (.bool false) := by simp [World.cell?, HX6.out.ru]
      have y8 : w6.cell? ⟨w.heap.size + 1, 8, none⟩ = some (.bool false) := by simp [World.cell?, HX6.out.ru]
      have yz : ∀ k, w6.frozen? ⟨w.heap.size + 1, k, none⟩ = false := fun k => by simp [World.frozen?, HX6.out.ru]
      clear hb
      have HX7 := hide (HX6.out.set 2 (.bool (!ew1)))
      go_upto_region 4 with (fail)
      obtain ⟨W4, hV⟩ : ∃ V, w6.setCell ⟨w.heap.size + 1, 2, none⟩ (.bool (!ew1)) = V := ⟨_, rfl⟩
      rw [hV] at HX7 ⊢
      clear hV
      have HS0 : Hid ((fun V => Below w.heap.size w V ∧ V.heap[w.heap.size]? = some (.cells #[.int .i64 ek, .int .i64 eo, .int .i64 en, .int .i64 el, .int .i64 ((i : Int) + 1), .int .i64 eb, .int .i64 ei, .int .i64 ec, .int .i64 es, .int .i64 er, .int .u64 ew, .string ex, .slice q et.length cq] 43 (0, 0))) (W4.drew)) := hide ⟨HX7.out.below.drew, HX7.out.ev⟩
      have HY0 := hide (HX7.out.low (Below.refl _ _).drew)
      clear x0 x1 x2 x3 x4 x5 x6 x7 x8 x9 x10 x11 x12 y0 y1 y2 y3 y4 y5 y6 y7 y8 yz
      have HCe : Hid (∀ w' : World, (fun V => Below w.heap.size w V ∧ V.heap[w.heap.size]? = some (.cells #[.int .i64 ek, .int .i64 eo, .int .i64 en, .int .i64 el, .int .i64 ((i : Int) + 1), .int .i64 eb, .int .i64 ei, .int .i64 ec, .int .i64 es, .int .i64 er, .int .u64 ew, .string ex, .slice q et.length cq] 43 (0, 0))) w' → w'.cell? ⟨w.heap.size, 4, none⟩ = some (.int .i64 ((i : Int) + 1)) ∧ w'.cell? ⟨w.heap.size, 5, none⟩ = some (.int .i64 eb) ∧ w'.cell? ⟨w.heap.size, 6, none⟩ = some (.int .i64 ei) ∧ w'.cell? ⟨w.heap.size, 12, none⟩ = some (.slice q et.length cq)) := hide fun w' hw => ⟨by simp [World.cell?, hw.2], by simp [World.cell?, hw.2], by simp [World.cell?, hw.2], by simp [World.cell?, hw.2]⟩
      refine wp_region_held_drew (S := fun V => Below w.heap.size w V ∧ V.heap[w.heap.size]? = some (.cells #[.int .i64 ek, .int .i64 eo, .int .i64 en, .int .i64 el, .int .i64 ((i : Int) + 1), .int .i64 eb, .int .i64 ei, .int .i64 ec, .int .i64 es, .int .i64 er, .int .u64 ew, .string ex, .slice q et.length cq] 43 (0, 0))) (by kernel_rfl) (HS0.out) (fun hHeld => ?_)
      refine wpAnyH_take (i := 0) (v := .pointer (some ⟨b, 0, none⟩)) rfl (by kernel_rfl) (by kernel_rfl) (by kernel_rfl) (fun _ _ _ h => h) (Or.inl ⟨by kernel_rfl, fun w1 hSw => by clear hHeld; obtain ⟨f0, f1, f2, f3⟩ := HCe.out _ hSw; go_simp⟩) hHeld ?_
      try simp only [Act.put]
      try simp only [List.getElem_toArray]
      try simp only [List.getElem_cons_succ]
      try simp only [List.getElem_cons_zero]
      try simp only [List.setIfInBounds_toArray]
      try simp only [List.set_cons_succ, List.set_cons_zero]
      refine wpAnyH_take (i := 1) (v := .pointer (some ⟨w.heap.size, 4, none⟩)) rfl (by kernel_rfl) (by kernel_rfl) (by kernel_rfl) (fun _ _ _ h => h) (Or.inl ⟨by kernel_rfl, fun w1 hSw => by clear hHeld; obtain ⟨f0, f1, f2, f3⟩ := HCe.out _ hSw; go_simp⟩) hHeld ?_
      try simp only [Act.put]
      try simp only [List.getElem_toArray]
      try simp only [List.getElem_cons_succ]
      try simp only [List.getElem_cons_zero]
      try simp only [List.setIfInBounds_toArray]
      try simp only [List.set_cons_succ, List.set_cons_zero]
      refine wpAnyH_take (i := 2) (v := .int .i64 ((i : Int) + 1)) rfl (by kernel_rfl) (by kernel_rfl) (by kernel_rfl) (fun _ _ _ h => h) (Or.inl ⟨by kernel_rfl, fun w1 hSw => by clear hHeld; obtain ⟨f0, f1, f2, f3⟩ := HCe.out _ hSw; go_simp⟩) hHeld ?_
      try simp only [Act.put]
      try simp only [List.getElem_toArray]
      try simp only [List.getElem_cons_succ]
      try simp only [List.getElem_cons_zero]
      try simp only [List.setIfInBounds_toArray]
      try simp only [List.set_cons_succ, List.set_cons_zero]
      refine wpAnyH_ready (rs := [3]) (by kernel_rfl) (by simp) ?_
      refine AllReadyH.cons rfl (fun K hK => ?_) AllReadyH.nil
      go_simp
      refine (HK.out _ hHeld.1).mono ?_
      rintro e V1 ⟨rfl, hb⟩
      have HS1 := hide (⟨below_of hHeld.1 hb, (hb.block _ (lt_of_block hHeld.2)).trans hHeld.2⟩ : _ ∧ _)
      have HY1 := hide (HY0.out.low hb)
      clear hb
      refine hK.out _ _ (HS1.out) (fun hHeld => ?_)
      clear hK K
      try simp only [Act.put]
      try simp only [List.getElem_toArray]
      try simp only [List.getElem_cons_succ]
      try simp only [List.getElem_cons_zero]
      try simp only [List.setIfInBounds_toArray]
      try simp only [List.set_cons_succ, List.set_cons_zero]
      refine wpAnyH_take (i := 4) (v := .bool false) rfl (by kernel_rfl) (by kernel_rfl) (by kernel_rfl) (fun _ _ _ h => h) (Or.inl ⟨by kernel_rfl, fun w1 hSw => by clear hHeld; obtain ⟨f0, f1, f2, f3⟩ := HCe.out _ hSw; go_simp⟩) hHeld ?_
      try simp only [Act.put]
      try simp only [List.getElem_toArray]
      try simp only [List.getElem_cons_succ]
      try simp only [List.getElem_cons_zero]
      try simp only [List.setIfInBounds_toArray]
      try simp only [List.set_cons_succ, List.set_cons_zero]
      refine wpAnyH_take (i := 5) (v := undef) rfl (by kernel_rfl) (by kernel_rfl) (by kernel_rfl) (fun _ _ _ h => h) (Or.inr ⟨by kernel_rfl, rfl⟩) hHeld ?_
      try simp only [Act.put]
      try simp only [List.getElem_toArray]
      try simp only [List.getElem_cons_succ]
      try simp only [List.getElem_cons_zero]
      try simp only [List.setIfInBounds_toArray]
      try simp only [List.set_cons_succ, List.set_cons_zero]
      refine wpAnyH_take (i := 6) (v := undef) rfl (by kernel_rfl) (by kernel_rfl) (by kernel_rfl) (fun _ _ _ h => h) (Or.inr ⟨by kernel_rfl, rfl⟩) hHeld ?_
      try simp only [Act.put]
      try simp only [List.getElem_toArray]
      try simp only [List.getElem_cons_succ]
      try simp only [List.getElem_cons_zero]
      try simp only [List.setIfInBounds_toArray]
      try simp only [List.set_cons_succ, List.set_cons_zero]
      refine wpAnyH_take (i := 7) (v := undef) rfl (by kernel_rfl) (by kernel_rfl) (by kernel_rfl) (fun _ _ _ h => h) (Or.inr ⟨by kernel_rfl, rfl⟩) hHeld ?_
      try simp only [Act.put]
      try simp only [List.getElem_toArray]
      try simp only [List.getElem_cons_succ]
      try simp only [List.getElem_cons_zero]
      try simp only [List.setIfInBounds_toArray]
      try simp only [List.set_cons_succ, List.set_cons_zero]
      refine wpAnyH_take (i := 8) (v := undef) rfl (by kernel_rfl) (by kernel_rfl) (by kernel_rfl) (fun _ _ _ h => h) (Or.inr ⟨by kernel_rfl, rfl⟩) hHeld ?_
      try simp only [Act.put]
      try simp only [List.getElem_toArray]
      try simp only [List.getElem_cons_succ]
      try simp only [List.getElem_cons_zero]
      try simp only [List.setIfInBounds_toArray]
      try simp only [List.set_cons_succ, List.set_cons_zero]
      refine wpAnyH_take (i := 9) (v := undef) rfl (by kernel_rfl) (by kernel_rfl) (by kernel_rfl) (fun _ _ _ h => h) (Or.inr ⟨by kernel_rfl, rfl⟩) hHeld ?_
      try simp only [Act.put]
      try simp only [List.getElem_toArray]
      try simp only [List.getElem_cons_succ]
      try simp only [List.getElem_cons_zero]
      try simp only [List.setIfInBounds_toArray]
      try simp only [List.set_cons_succ, List.set_cons_zero]
      refine wpAnyH_take (i := 10) (v := undef) rfl (by kernel_rfl) (by kernel_rfl) (by kernel_rfl) (fun _ _ _ h => h) (Or.inr ⟨by kernel_rfl, rfl⟩) hHeld ?_
      try simp only [Act.put]
      try simp only [List.getElem_toArray]
      try simp only [List.getElem_cons_succ]
      try simp only [List.getElem_cons_zero]
      try simp only [List.setIfInBounds_toArray]
      try simp only [List.set_cons_succ, List.set_cons_zero]
      refine wpAnyH_take (i := 11) (v := undef) rfl (by kernel_rfl) (by kernel_rfl) (by kernel_rfl) (fun _ _ _ h => h) (Or.inr ⟨by kernel_rfl, rfl⟩) hHeld ?_
      try simp only [Act.put]
      try simp only [List.getElem_toArray]
      try simp only [List.getElem_cons_succ]
      try simp only [List.getElem_cons_zero]
      try simp only [List.setIfInBounds_toArray]
      try simp only [List.set_cons_succ, List.set_cons_zero]
      refine wpAnyH_take (i := 12) (v := undef) rfl (by kernel_rfl) (by kernel_rfl) (by kernel_rfl) (fun _ _ _ h => h) (Or.inr ⟨by kernel_rfl, rfl⟩) hHeld ?_
      try simp only [Act.put]
      try simp only [List.getElem_toArray]
      try simp only [List.getElem_cons_succ]
      try simp only [List.getElem_cons_zero]
      try simp only [List.setIfInBounds_toArray]
      try simp only [List.set_cons_succ, List.set_cons_zero]
      refine wpAnyH_take (i := 13) (v := undef) rfl (by kernel_rfl) (by kernel_rfl) (by kernel_rfl) (fun _ _ _ h => h) (Or.inr ⟨by kernel_rfl, rfl⟩) hHeld ?_
      try simp only [Act.put]
      try simp only [List.getElem_toArray]
      try simp only [List.getElem_cons_succ]
      try simp only [List.getElem_cons_zero]
      try simp only [List.setIfInBounds_toArray]
      try simp only [List.set_cons_succ, List.set_cons_zero]
      refine wpAnyH_take (i := 14) (v := undef) rfl (by kernel_rfl) (by kernel_rfl) (by kernel_rfl) (fun _ _ _ h => h) (Or.inr ⟨by kernel_rfl, rfl⟩) hHeld ?_
      try simp only [Act.put]
      try simp only [List.getElem_toArray]
      try simp only [List.getElem_cons_succ]
      try simp only [List.getElem_cons_zero]
      try simp only [List.setIfInBounds_toArray]
      try simp only [List.set_cons_succ, List.set_cons_zero]
      refine wpAnyH_take (i := 15) (v := undef) rfl (by kernel_rfl) (by kernel_rfl) (by kernel_rfl) (fun _ _ _ h => h) (Or.inr ⟨by kernel_rfl, rfl⟩) hHeld ?_
      try simp only [Act.put]
      try simp only [List.getElem_toArray]
      try simp only [List.getElem_cons_succ]
      try simp only [List.getElem_cons_zero]
      try simp only [List.setIfInBounds_toArray]
      try simp only [List.set_cons_succ, List.set_cons_zero]
      refine wpAnyH_take (i := 16) (v := undef) rfl (by kernel_rfl) (by kernel_rfl) (by kernel_rfl) (fun _ _ _ h => h) (Or.inr ⟨by kernel_rfl, rfl⟩) hHeld ?_
      try simp only [Act.put]
      try simp only [List.getElem_toArray]
      try simp only [List.getElem_cons_succ]
      try simp only [List.getElem_cons_zero]
      try simp only [List.setIfInBounds_toArray]
      try simp only [List.set_cons_succ, List.set_cons_zero]
      refine wpAnyH_take (i := 17) (v := undef) rfl (by kernel_rfl) (by kernel_rfl) (by kernel_rfl) (fun _ _ _ h => h) (Or.inr ⟨by kernel_rfl, rfl⟩) hHeld ?_
      try simp only [Act.put]
      try simp only [List.getElem_toArray]
      try simp only [List.getElem_cons_succ]
      try simp only [List.getElem_cons_zero]
      try simp only [List.setIfInBounds_toArray]
      try simp only [List.set_cons_succ, List.set_cons_zero]
      refine wpAnyH_take (i := 18) (v := undef) rfl (by kernel_rfl) (by kernel_rfl) (by kernel_rfl) (fun _ _ _ h => h) (Or.inr ⟨by kernel_rfl, rfl⟩) hHeld ?_
      try simp only [Act.put]
      try simp only [List.getElem_toArray]
      try simp only [List.getElem_cons_succ]
      try simp only [List.getElem_cons_zero]
      try simp only [List.setIfInBounds_toArray]
      try simp only [List.set_cons_succ, List.set_cons_zero]
      refine wpAnyH_take (i := 19) (v := undef) rfl (by kernel_rfl) (by kernel_rfl) (by kernel_rfl) (fun _ _ _ h => h) (Or.inr ⟨by kernel_rfl, rfl⟩) hHeld ?_
      try simp only [Act.put]
      try simp only [List.getElem_toArray]
      try simp only [List.getElem_cons_succ]
      try simp only [List.getElem_cons_zero]
      try simp only [List.setIfInBounds_toArray]
      try simp only [List.set_cons_succ, List.set_cons_zero]
      refine wpAnyH_take (i := 20) (v := undef) rfl (by kernel_rfl) (by kernel_rfl) (by kernel_rfl) (fun _ _ _ h => h) (Or.inr ⟨by kernel_rfl, rfl⟩) hHeld ?_
      try simp only [Act.put]
      try simp only [List.getElem_toArray]
      try simp only [List.getElem_cons_succ]
      try simp only [List.getElem_cons_zero]
      try simp only [List.setIfInBounds_toArray]
      try simp only [List.set_cons_succ, List.set_cons_zero]
      refine wpAnyH_take (i := 21) (v := undef) rfl (by kernel_rfl) (by kernel_rfl) (by kernel_rfl) (fun _ _ _ h => h) (Or.inr ⟨by kernel_rfl, rfl⟩) hHeld ?_
      try simp only [Act.put]
      try simp only [List.getElem_toArray]
      try simp only [List.getElem_cons_succ]
      try simp only [List.getElem_cons_zero]
      try simp only [List.setIfInBounds_toArray]
      try simp only [List.set_cons_succ, List.set_cons_zero]
      refine wpAnyH_take (i := 22) (v := undef) rfl (by kernel_rfl) (by kernel_rfl) (by kernel_rfl) (fun _ _ _ h => h) (Or.inr ⟨by kernel_rfl, rfl⟩) hHeld ?_
      try simp only [Act.put]
      try simp only [List.getElem_toArray]
      try simp only [List.getElem_cons_succ]
      try simp only [List.getElem_cons_zero]
      try simp only [List.setIfInBounds_toArray]
      try simp only [List.set_cons_succ, List.set_cons_zero]
      refine wpAnyH_take (i := 23) (v := .bool false) rfl (by kernel_rfl) (by kernel_rfl) (by kernel_rfl) (fun _ _ _ h => h) (Or.inl ⟨by kernel_rfl, fun w1 hSw => by clear hHeld; obtain ⟨f0, f1, f2, f3⟩ := HCe.out _ hSw; go_simp⟩) hHeld ?_
      try simp only [Act.put]
      try simp only [List.getElem_toArray]
      try simp only [List.getElem_cons_succ]
      try simp only [List.getElem_cons_zero]
      try simp only [List.setIfInBounds_toArray]
      try simp only [List.set_cons_succ, List.set_cons_zero]
      refine wpAnyH_take (i := 24) (v := .pointer (some ⟨w.heap.size + 1, 6, none⟩)) rfl (by kernel_rfl) (by kernel_rfl) (by kernel_rfl) (fun _ _ _ h => h) (Or.inl ⟨by kernel_rfl, fun w1 hSw => by clear hHeld; obtain ⟨f0, f1, f2, f3⟩ := HCe.out _ hSw; go_simp⟩) hHeld ?_
      try simp only [Act.put]
      try simp only [List.getElem_toArray]
      try simp only [List.getElem_cons_succ]
      try simp only [List.getElem_cons_zero]
      try simp only [List.setIfInBounds_toArray]
      try simp only [List.set_cons_succ, List.set_cons_zero]
      refine wpAnyH_ready (rs := [25]) (by kernel_rfl) (by simp) ?_
      refine AllReadyH.cons rfl (fun K hK => ?_) AllReadyH.nil
      have sz : V1.frozen? ⟨w.heap.size + 1, 6, none⟩ = false := by simp [World.frozen?, HY1.out.ru]
      have sc : V1.cell? ⟨w.heap.size + 1, 6, none⟩ = some (.bool false) := by simp [World.cell?, HY1.out.ru]
      have HYs := hide (HY1.out.set 6 (.bool false))
      have HSs : Hid ((fun V => Below w.heap.size w V ∧ V.heap[w.heap.size]? = some (.cells #[.int .i64 ek, .int .i64 eo, .int .i64 en, .int .i64 el, .int .i64 ((i : Int) + 1), .int .i64 eb, .int .i64 ei, .int .i64 ec, .int .i64 es, .int .i64 er, .int .u64 ew, .string ex, .slice q et.length cq] 43 (0, 0))) (V1.setCell ⟨w.heap.size + 1, 6, none⟩ (.bool false))) := hide ⟨HYs.out.below, HYs.out.ev⟩
      clear hHeld
      go_simp
      refine hK.out _ _ (HSs.out) (fun hHeld => ?_)
      clear hK K
      try simp only [Act.put]
      try simp only [List.getElem_toArray]
      try simp only [List.getElem_cons_succ]
      try simp only [List.getElem_cons_zero]
      try simp only [List.setIfInBounds_toArray]
      try simp only [List.set_cons_succ, List.set_cons_zero]
      refine wpAnyH_done (by kernel_rfl) ?_ _
      have y0 := True.intro
      have y1 := True.intro
      have y2 := True.intro
      have y3 := True.intro
      have y4 := True.intro
      have y5 := True.intro
      have y6 := True.intro
      have y7 := True.intro
      have y8 := True.intro
      have yz := True.intro
      go_upto_region 5 with (fail)
      obtain ⟨V, hV⟩ : ∃ V, V1.setCell ⟨w.heap.size + 1, 6, none⟩ (.bool false) = V := ⟨_, rfl⟩
      rw [hV] at HYs ⊢
      clear hV
      clear y0 y1 y2 y3 y4 y5 y6 y7 y8 yz
      have y0 : V.cell? ⟨w.heap.size + 1, 0, none⟩ = some (.bool false) := by simp [World.cell?, HYs.out.ru]
      have y1 : V.cell? ⟨w.heap.size + 1, 1, none⟩ = some (.bool false) := by simp [World.cell?, HYs.out.ru]
      have y2 : V.cell? ⟨w.heap.size + 1, 2, none⟩ = some (.bool (!ew1)) := by simp [World.cell?, HYs.out.ru]
      have y3 : V.cell? ⟨w.heap.size + 1, 3, none⟩ = some (.bool false) := by simp [World.cell?, HYs.out.ru]
      have y4 : V.cell? ⟨w.heap.size + 1, 4, none⟩ = some (.bool (!hd)) := by simp [World.cell?, HYs.out.ru]
      have y5 : V.cell? ⟨w.heap.size + 1, 5, none⟩ = some (.bool false) := by simp [World.cell?, HYs.out.ru]
      have y6 : V.cell? ⟨w.heap.size + 1, 6, none⟩ = some (.bool false) := by simp [World.cell?, HYs.out.ru]
      have y7 : V.cell? ⟨w.heap.size + 1, 7, none⟩ = some (.bool false) := by simp [World.cell?, HYs.out.ru]
      have y8 : V.cell? ⟨w.heap.size + 1, 8, none⟩ = some (.bool false) := by simp [World.cell?, HYs.out.ru]
      have yz : ∀ k, V.frozen? ⟨w.heap.size + 1, k, none⟩ = false := fun k => by simp [World.frozen?, HYs.out.ru]
      have hru : V.heap[w.heap.size + 1]? = some (.cells #[.bool false, .bool false, .bool (!ew1), .bool false, .bool (!hd), .bool false, .bool false, .bool false, .bool false] 60 (0, 0)) := by simpa using HYs.out.ru
      have HR9 := hide (put9 hru)
      have HB9 := hide (below9 (c0 := .bool false) (c1 := .bool false) (c2 := .bool (!ew1)) (c3 := .bool false) (c4 := .bool (!hd)) (c5 := .bool false) (c6 := .bool false) (c7 := .bool false) (c8 := .bool false) HYs.out.below (Nat.le_succ _))
      clear hru
      go_wp2_with fail
      refine bodyPost_ret (results_rul (fn := Try.f40) rfl _ _ (w.heap.size + 1) #[.bool false, .bool false, .bool (!ew1), .bool false, .bool (!hd), .bool false, .bool false, .bool false, .bool false] rfl HR9.out rfl) rfl ?_
      exact ⟨rfl, HB9.out⟩
  | true =>
    rw [hk] at HK
    have hi : i < h.jobs.length := by simpa [knw] using hk
    have hjl : (jat h i).lg.length ≤ 1099511627776 := hlg _ (by
      unfold jat
      rw [getElem!_pos h.jobs i hi]
      exact List.getElem_mem hi)
    have HEa : Hid (∀ W, Below w.heap.size w W → Calls Try.prog 66 #[.pointer (some ⟨b, 0, none⟩), nr i, .int .i64 eb, .int .i64 ((jat h i).lg.length : Int)] W fun r w' => r = .returned (.bool (endA h i eb ((jat h i).lg.length : Int))) ∧ Below W.heap.size W w') := hide fun W hb => endedAt_any (H0.out.below hb) i eb _ hji hb64 (i64_of (by omega))
    obtain ⟨ad, cap, hjv⟩ := H0.out.form
    obtain ⟨g, rfl⟩ := H0.out.grow hjv hi
    obtain ⟨lv, hL, _⟩ := H0.out.at hjv hi
    obtain ⟨p, cp, hlv⟩ := own_slice (H0.out.logs _ (List.mem_of_getElem? hL))
    dsimp only at hlv
    subst hlv
    have HA : Hid (∀ W, Below w.heap.size w W → W.cell? ⟨b, 0, none⟩ = some (.slice (some ⟨g, 0, none⟩) h.jobs.length cap) ∧ W.cell? ⟨g, i * 5 + 4, none⟩ = some (.slice p (jat h i).lg.length cp)) := hide fun W hb => (by
      have hw := H0.out.below hb
      obtain ⟨lv', hL', h2⟩ := hw.at hjv hi
      rw [hL] at hL'
      injection hL' with hL'
      injection hL' with _ hL'
      subst hL'
      exact ⟨hw.c0 hjv, h2.2.2.2.2⟩)
    have ii : (i : Int) < (h.jobs.length : Int) := by omega
    have hwi : IntKind.i64.wrap (i : Int) = (i : Int) := by rw [IntKind.wrap_i64]; omega
    generalize endA h i eb ((jat h i).lg.length : Int) = ea1 at *
    clear hk hb64 hlg hjl hL hjv hi
    generalize hLN : ((jat h i).lg.length : Int) = LN at *
    have hlen : ((jat h i).lg.length : Int) = LN := hLN
    cases st with
    | true =>
      go_enter Try.func40, Try.ntmps40
      go_wp2_with fail
      refine (HSt.out _ HX.out.below).mono ?_
      rintro e w1 ⟨rfl, hb⟩
      have HX1 := hide (HX.out.low hb)
      have x0 : w1.cell? ⟨w.heap.size, 0, none⟩ = some (.int .i64 ek) := by simp [World.cell?, HX1.out.ev]
      have x1 : w1.cell? ⟨w.heap.size, 1, none⟩ = some (.int .i64 eo) := by simp [World.cell?, HX1.out.ev]
      have x2 : w1.cell? ⟨w.heap.size, 2, none⟩ = some (.int .i64 en) := by simp [World.cell?, HX1.out.ev]
      have x3 : w1.cell? ⟨w.heap.size, 3, none⟩ = some (.int .i64 el) := by simp [World.cell?, HX1.out.ev]
      have x4 : w1.cell? ⟨w.heap.size, 4, none⟩ = some (.int .i64 ((i : Int) + 1)) := by simp [World.cell?, HX1.out.ev]
      have x5 : w1.cell? ⟨w.heap.size, 5, none⟩ = some (.int .i64 eb) := by simp [World.cell?, HX1.out.ev]
      have x6 : w1.cell? ⟨w.heap.size, 6, none⟩ = some (.int .i64 ei) := by simp [World.cell?, HX1.out.ev]
      have x7 : w1.cell? ⟨w.heap.size, 7, none⟩ = some (.int .i64 ec) := by simp [World.cell?, HX1.out.ev]
      have x8 : w1.cell? ⟨w.heap.size, 8, none⟩ = some (.int .i64 es) := by simp [World.cell?, HX1.out.ev]
      have x9 : w1.cell? ⟨w.heap.size, 9, none⟩ = some (.int .i64 er) := by simp [World.cell?, HX1.out.ev]
      have x10 : w1.cell? ⟨w.heap.size, 10, none⟩ = some (.int .u64 ew) := by simp [World.cell?, HX1.out.ev]
      have x11 : w1.cell? ⟨w.heap.size, 11, none⟩ = some (.string ex) := by simp [World.cell?, HX1.out.ev]
      have x12 : w1.cell? ⟨w.heap.size, 12, none⟩ = some (.slice q et.length cq) := by simp [World.cell?, HX1.out.ev]
      have y0 : w1.cell? ⟨w.heap.size + 1, 0, none⟩ = some (.bool false) := by simp [World.cell?, HX1.out.ru]
      have y1 : w1.cell? ⟨w.heap.size + 1, 1, none⟩ = some (.bool false) := by simp [World.cell?, HX1.out.ru]
      have y2 : w1.cell? ⟨w.heap.size + 1, 2, none⟩ = some (.bool false) := by simp [World.cell?, HX1.out.ru]
      have y3 : w1.cell? ⟨w.heap.size + 1, 3, none⟩ = some (.bool false) := by simp [World.cell?, HX1.out.ru]
      have y4 : w1.cell? ⟨w.heap.size + 1, 4, none⟩ = some (.bool false) := by simp [World.cell?, HX1.out.ru]
      have y5 : w1.cell? ⟨w.heap.size + 1, 5, none⟩ = some (.bool false) := by simp [World.cell?, HX1.out.ru]
      have y6 : w1.cell? ⟨w.heap.size + 1, 6, none⟩ = some (.bool false) := by simp [World.cell?, HX1.out.ru]
      have y7 : w1.cell? ⟨w.heap.size + 1, 7, none⟩ = some (.bool false) := by simp [World.cell?, HX1.out.ru]
      have y8 : w1.cell? ⟨w.heap.size + 1, 8, none⟩ = some (.bool false) := by simp [World.cell?, HX1.out.ru]
      have yz : ∀ k, w1.frozen? ⟨w.heap.size + 1, k, none⟩ = false := fun k => by simp [World.frozen?, HX1.out.ru]
      clear hb
      have HX2 := hide (HX1.out.set 1 (.bool true))
      go_wp2_with fail
      refine (HSt.out _ HX2.out.below).mono ?_
      rintro e w3 ⟨rfl, hb⟩
      have HX3 := hide (HX2.out.low hb)
      have x0 : w3.cell? ⟨w.heap.size, 0, none⟩ = some (.int .i64 ek) := by simp [World.cell?, HX3.out.ev]
      have x1 : w3.cell? ⟨w.heap.size, 1, none⟩ = some (.int .i64 eo) := by simp [World.cell?, HX3.out.ev]
      have x2 : w3.cell? ⟨w.heap.size, 2, none⟩ = some (.int .i64 en) := by simp [World.cell?, HX3.out.ev]
      have x3 : w3.cell? ⟨w.heap.size, 3, none⟩ = some (.int .i64 el) := by simp [World.cell?, HX3.out.ev]
      have x4 : w3.cell? ⟨w.heap.size, 4, none⟩ = some (.int .i64 ((i : Int) + 1)) := by simp [World.cell?, HX3.out.ev]
      have x5 : w3.cell? ⟨w.heap.size, 5, none⟩ = some (.int .i64 eb) := by simp [World.cell?, HX3.out.ev]
      have x6 : w3.cell? ⟨w.heap.size, 6, none⟩ = some (.int .i64 ei) := by simp [World.cell?, HX3.out.ev]
      have x7 : w3.cell? ⟨w.heap.size, 7, none⟩ = some (.int .i64 ec) := by simp [World.cell?, HX3.out.ev]
      have x8 : w3.cell? ⟨w.heap.size, 8, none⟩ = some (.int .i64 es) := by simp [World.cell?, HX3.out.ev]
      have x9 : w3.cell? ⟨w.heap.size, 9, none⟩ = some (.int .i64 er) := by simp [World.cell?, HX3.out.ev]
      have x10 : w3.cell? ⟨w.heap.size, 10, none⟩ = some (.int .u64 ew) := by simp [World.cell?, HX3.out.ev]
      have x11 : w3.cell? ⟨w.heap.size, 11, none⟩ = some (.string ex) := by simp [World.cell?, HX3.out.ev]
      have x12 : w3.cell? ⟨w.heap.size, 12, none⟩ = some (.slice q et.length cq) := by simp [World.cell?, HX3.out.ev]
      have y0 : w3.cell? ⟨w.heap.size + 1, 0, none⟩ = some (.bool false) := by simp [World.cell?, HX3.out.ru]
      have y1 : w3.cell? ⟨w.heap.size + 1, 1, none⟩ = some (.bool true) := by simp [World.cell?, HX3.out.ru]
      have y2 : w3.cell? ⟨w.heap.size + 1, 2, none⟩ = some (.bool false) := by simp [World.cell?, HX3.out.ru]
      have y3 : w3.cell? ⟨w.heap.size + 1, 3, none⟩ = some (.bool false) := by simp [World.cell?, HX3.out.ru]
      have y4 : w3.cell? ⟨w.heap.size + 1, 4, none⟩ = some (.bool false) := by simp [World.cell?, HX3.out.ru]
      have y5 : w3.cell? ⟨w.heap.size + 1, 5, none⟩ = some (.bool false) := by simp [World.cell?, HX3.out.ru]
      have y6 : w3.cell? ⟨w.heap.size + 1, 6, none⟩ = some (.bool false) := by simp [World.cell?, HX3.out.ru]
      have y7 : w3.cell? ⟨w.heap.size + 1, 7, none⟩ = some (.bool false) := by simp [World.cell?, HX3.out.ru]
      have y8 : w3.cell? ⟨w.heap.size + 1, 8, none⟩ = some (.bool false) := by simp [World.cell?, HX3.out.ru]
      have yz : ∀ k, w3.frozen? ⟨w.heap.size + 1, k, none⟩ = false := fun k => by simp [World.frozen?, HX3.out.ru]
      clear hb
      have HX4 := hide (HX3.out.set 4 (.bool false))
      go_wp2_with fail
      refine (HEw.out _ HX4.out.below).mono ?_
      rintro e w5 ⟨rfl, hb⟩
      have HX5 := hide (HX4.out.low hb)
      have x0 : w5.cell? ⟨w.heap.size, 0, none⟩ = some (.int .i64 ek) := by simp [World.cell?, HX5.out.ev]
      have x1 : w5.cell? ⟨w.heap.size, 1, none⟩ = some (.int .i64 eo) := by simp [World.cell?, HX5.out.ev]
      have x2 : w5.cell? ⟨w.heap.size, 2, none⟩ = some (.int .i64 en) := by simp [World.cell?, HX5.out.ev]
      have x3 : w5.cell? ⟨w.heap.size, 3, none⟩ = some (.int .i64 el) := by simp [World.cell?, HX5.out.ev]
      have x4 : w5.cell? ⟨w.heap.size, 4, none⟩ = some (.int .i64 ((i : Int) + 1)) := by simp [World.cell?, HX5.out.ev]
      have x5 : w5.cell? ⟨w.heap.size, 5, none⟩ = some (.int .i64 eb) := by simp [World.cell?, HX5.out.ev]
      have x6 : w5.cell? ⟨w.heap.size, 6, none⟩ = some (.int .i64 ei) := by simp [World.cell?, HX5.out.ev]
      have x7 : w5.cell? ⟨w.heap.size, 7, none⟩ = some (.int .i64 ec) := by simp [World.cell?, HX5.out.ev]
      have x8 : w5.cell? ⟨w.heap.size, 8, none⟩ = some (.int .i64 es) := by simp [World.cell?, HX5.out.ev]
      have x9 : w5.cell? ⟨w.heap.size, 9, none⟩ = some (.int .i64 er) := by simp [World.cell?, HX5.out.ev]
      have x10 : w5.cell? ⟨w.heap.size, 10, none⟩ = some (.int .u64 ew) := by simp [World.cell?, HX5.out.ev]
      have x11 : w5.cell? ⟨w.heap.size, 11, none⟩ = some (.string ex) := by simp [World.cell?, HX5.out.ev]
      have x12 : w5.cell? ⟨w.heap.size, 12, none⟩ = some (.slice q et.length cq) := by simp [World.cell?, HX5.out.ev]
      have y0 : w5.cell? ⟨w.heap.size + 1, 0, none⟩ = some (.bool false) := by simp [World.cell?, HX5.out.ru]
      have y1 : w5.cell? ⟨w.heap.size + 1, 1, none⟩ = some (.bool true) := by simp [World.cell?, HX5.out.ru]
      have y2 : w5.cell? ⟨w.heap.size + 1, 2, none⟩ = some (.bool false) := by simp [World.cell?, HX5.out.ru]
      have y3 : w5.cell? ⟨w.heap.size + 1, 3, none⟩ = some (.bool false) := by simp [World.cell?, HX5.out.ru]
      have y4 : w5.cell? ⟨w.heap.size + 1, 4, none⟩ = some (.bool false) := by simp [World.cell?, HX5.out.ru]
      have y5 : w5.cell? ⟨w.heap.size + 1, 5, none⟩ = some (.bool false) := by simp [World.cell?, HX5.out.ru]
      have y6 : w5.cell? ⟨w.heap.size + 1, 6, none⟩ = some (.bool false) := by simp [World.cell?, HX5.out.ru]
      have y7 : w5.cell? ⟨w.heap.size + 1, 7, none⟩ = some (.bool false) := by simp [World.cell?, HX5.out.ru]
      have y8 : w5.cell? ⟨w.heap.size + 1, 8, none⟩ = some (.bool false) := by simp [World.cell?, HX5.out.ru]
      have yz : ∀ k, w5.frozen? ⟨w.heap.size + 1, k, none⟩ = false := fun k => by simp [World.frozen?, HX5.out.ru]
      clear hb
      have HX6 := hide (HX5.out.set 2 (.bool (!ew1)))
      go_upto_region 4 with (fail)
      obtain ⟨W4, hV⟩ : ∃ V, w5.setCell ⟨w.heap.size + 1, 2, none⟩ (.bool (!ew1)) = V := ⟨_, rfl⟩
      rw [hV] at HX6 ⊢
      clear hV
      have HS0 : Hid ((fun V => Below w.heap.size w V ∧ V.heap[w.heap.size]? = some (.cells #[.int .i64 ek, .int .i64 eo, .int .i64 en, .int .i64 el, .int .i64 ((i : Int) + 1), .int .i64 eb, .int .i64 ei, .int .i64 ec, .int .i64 es, .int .i64 er, .int .u64 ew, .string ex, .slice q et.length cq] 43 (0, 0))) (W4.drew)) := hide ⟨HX6.out.below.drew, HX6.out.ev⟩
      have HY0 := hide (HX6.out.low (Below.refl _ _).drew)
      clear x0 x1 x2 x3 x4 x5 x6 x7 x8 x9 x10 x11 x12 y0 y1 y2 y3 y4 y5 y6 y7 y8 yz
      have HCe : Hid (∀ w' : World, (fun V => Below w.heap.size w V ∧ V.heap[w.heap.size]? = some (.cells #[.int .i64 ek, .int .i64 eo, .int .i64 en, .int .i64 el, .int .i64 ((i : Int) + 1), .int .i64 eb, .int .i64 ei, .int .i64 ec, .int .i64 es, .int .i64 er, .int .u64 ew, .string ex, .slice q et.length cq] 43 (0, 0))) w' → w'.cell? ⟨w.heap.size, 4, none⟩ = some (.int .i64 ((i : Int) + 1)) ∧ w'.cell? ⟨w.heap.size, 5, none⟩ = some (.int .i64 eb) ∧ w'.cell? ⟨w.heap.size, 6, none⟩ = some (.int .i64 ei) ∧ w'.cell? ⟨w.heap.size, 12, none⟩ = some (.slice q et.length cq) ∧ w'.cell? ⟨b, 0, none⟩ = some (.slice (some ⟨g, 0, none⟩) h.jobs.length cap) ∧ w'.cell? ⟨g, i * 5 + 4, none⟩ = some (.slice p (jat h i).lg.length cp)) := hide fun w' hw => ⟨by simp [World.cell?, hw.2], by simp [World.cell?, hw.2], by simp [World.cell?, hw.2], by simp [World.cell?, hw.2], (HA.out _ hw.1).1, (HA.out _ hw.1).2⟩
      refine wp_region_held_drew (S := fun V => Below w.heap.size w V ∧ V.heap[w.heap.size]? = some (.cells #[.int .i64 ek, .int .i64 eo, .int .i64 en, .int .i64 el, .int .i64 ((i : Int) + 1), .int .i64 eb, .int .i64 ei, .int .i64 ec, .int .i64 es, .int .i64 er, .int .u64 ew, .string ex, .slice q et.length cq] 43 (0, 0))) (by kernel_rfl) (HS0.out) (fun hHeld => ?_)
      refine wpAnyH_take (i := 0) (v := .pointer (some ⟨b, 0, none⟩)) rfl (by kernel_rfl) (by kernel_rfl) (by kernel_rfl) (fun _ _ _ h => h) (Or.inl ⟨by kernel_rfl, fun w1 hSw => by clear hHeld; obtain ⟨f0, f1, f2, f3, f4, f5⟩ := HCe.out _ hSw; go_simp⟩) hHeld ?_
      try simp only [Act.put]
      try simp only [List.getElem_toArray]
      try simp only [List.getElem_cons_succ]
      try simp only [List.getElem_cons_zero]
      try simp only [List.setIfInBounds_toArray]
      try simp only [List.set_cons_succ, List.set_cons_zero]
      refine wpAnyH_take (i := 1) (v := .pointer (some ⟨w.heap.size, 4, none⟩)) rfl (by kernel_rfl) (by kernel_rfl) (by kernel_rfl) (fun _ _ _ h => h) (Or.inl ⟨by kernel_rfl, fun w1 hSw => by clear hHeld; obtain ⟨f0, f1, f2, f3, f4, f5⟩ := HCe.out _ hSw; go_simp⟩) hHeld ?_
      try simp only [Act.put]
      try simp only [List.getElem_toArray]
      try simp only [List.getElem_cons_succ]
      try simp only [List.getElem_cons_zero]
      try simp only [List.setIfInBounds_toArray]
      try simp only [List.set_cons_succ, List.set_cons_zero]
      refine wpAnyH_take (i := 2) (v := .int .i64 ((i : Int) + 1)) rfl (by kernel_rfl) (by kernel_rfl) (by kernel_rfl) (fun _ _ _ h => h) (Or.inl ⟨by kernel_rfl, fun w1 hSw => by clear hHeld; obtain ⟨f0, f1, f2, f3, f4, f5⟩ := HCe.out _ hSw; go_simp⟩) hHeld ?_
      try simp only [Act.put]
      try simp only [List.getElem_toArray]
      try simp only [List.getElem_cons_succ]
      try simp only [List.getElem_cons_zero]
      try simp only [List.setIfInBounds_toArray]
      try simp only [List.set_cons_succ, List.set_cons_zero]
      refine wpAnyH_ready (rs := [3]) (by kernel_rfl) (by simp) ?_
      refine AllReadyH.cons rfl (fun K hK => ?_) AllReadyH.nil
      go_simp
      refine (HK.out _ hHeld.1).mono ?_
      rintro e V1 ⟨rfl, hb⟩
      have HS1 := hide (⟨below_of hHeld.1 hb, (hb.block _ (lt_of_block hHeld.2)).trans hHeld.2⟩ : _ ∧ _)
      have HY1 := hide (HY0.out.low hb)
      clear hb
      refine hK.out _ _ (HS1.out) (fun hHeld => ?_)
      clear hK K
      try simp only [Act.put]
      try simp only [List.getElem_toArray]
      try simp only [List.getElem_cons_succ]
      try simp only [List.getElem_cons_zero]
      try simp only [List.setIfInBounds_toArray]
      try simp only [List.set_cons_succ, List.set_cons_zero]
      refine wpAnyH_take (i := 4) (v := .bool true) rfl (by kernel_rfl) (by kernel_rfl) (by kernel_rfl) (fun _ _ _ h => h) (Or.inl ⟨by kernel_rfl, fun w1 hSw => by clear hHeld; obtain ⟨f0, f1, f2, f3, f4, f5⟩ := HCe.out _ hSw; go_simp⟩) hHeld ?_
      try simp only [Act.put]
      try simp only [List.getElem_toArray]
      try simp only [List.getElem_cons_succ]
      try simp only [List.getElem_cons_zero]
      try simp only [List.setIfInBounds_toArray]
      try simp only [List.set_cons_succ, List.set_cons_zero]
      refine wpAnyH_take (i := 5) (v := .pointer (some ⟨b, 0, none⟩)) rfl (by kernel_rfl) (by kernel_rfl) (by kernel_rfl) (fun _ _ _ h => h) (Or.inl ⟨by kernel_rfl, fun w1 hSw => by clear hHeld; obtain ⟨f0, f1, f2, f3, f4, f5⟩ := HCe.out _ hSw; go_simp⟩) hHeld ?_
      try simp only [Act.put]
      try simp only [List.getElem_toArray]
      try simp only [List.getElem_cons_succ]
      try simp only [List.getElem_cons_zero]
      try simp only [List.setIfInBounds_toArray]
      try simp only [List.set_cons_succ, List.set_cons_zero]
      refine wpAnyH_take (i := 6) (v := .pointer (some ⟨w.heap.size, 4, none⟩)) rfl (by kernel_rfl) (by kernel_rfl) (by kernel_rfl) (fun _ _ _ h => h) (Or.inl ⟨by kernel_rfl, fun w1 hSw => by clear hHeld; obtain ⟨f0, f1, f2, f3, f4, f5⟩ := HCe.out _ hSw; go_simp⟩) hHeld ?_
      try simp only [Act.put]
      try simp only [List.getElem_toArray]
      try simp only [List.getElem_cons_succ]
      try simp only [List.getElem_cons_zero]
      try simp only [List.setIfInBounds_toArray]
      try simp only [List.set_cons_succ, List.set_cons_zero]
      refine wpAnyH_take (i := 7) (v := .int .i64 ((i : Int) + 1)) rfl (by kernel_rfl) (by kernel_rfl) (by kernel_rfl) (fun _ _ _ h => h) (Or.inl ⟨by kernel_rfl, fun w1 hSw => by clear hHeld; obtain ⟨f0, f1, f2, f3, f4, f5⟩ := HCe.out _ hSw; go_simp⟩) hHeld ?_
      try simp only [Act.put]
      try simp only [List.getElem_toArray]
      try simp only [List.getElem_cons_succ]
      try simp only [List.getElem_cons_zero]
      try simp only [List.setIfInBounds_toArray]
      try simp only [List.set_cons_succ, List.set_cons_zero]
      refine wpAnyH_take (i := 8) (v := .pointer (some ⟨w.heap.size, 5, none⟩)) rfl (by kernel_rfl) (by kernel_rfl) (by kernel_rfl) (fun _ _ _ h => h) (Or.inl ⟨by kernel_rfl, fun w1 hSw => by clear hHeld; obtain ⟨f0, f1, f2, f3, f4, f5⟩ := HCe.out _ hSw; go_simp⟩) hHeld ?_
      try simp only [Act.put]
      try simp only [List.getElem_toArray]
      try simp only [List.getElem_cons_succ]
      try simp only [List.getElem_cons_zero]
      try simp only [List.setIfInBounds_toArray]
      try simp only [List.set_cons_succ, List.set_cons_zero]
      refine wpAnyH_take (i := 9) (v := .int .i64 eb) rfl (by kernel_rfl) (by kernel_rfl) (by kernel_rfl) (fun _ _ _ h => h) (Or.inl ⟨by kernel_rfl, fun w1 hSw => by clear hHeld; obtain ⟨f0, f1, f2, f3, f4, f5⟩ := HCe.out _ hSw; go_simp⟩) hHeld ?_
      try simp only [Act.put]
      try simp only [List.getElem_toArray]
      try simp only [List.getElem_cons_succ]
      try simp only [List.getElem_cons_zero]
      try simp only [List.setIfInBounds_toArray]
      try simp only [List.set_cons_succ, List.set_cons_zero]
      refine wpAnyH_take (i := 10) (v := .pointer (some ⟨b, 0, none⟩)) rfl (by kernel_rfl) (by kernel_rfl) (by kernel_rfl) (fun _ _ _ h => h) (Or.inl ⟨by kernel_rfl, fun w1 hSw => by clear hHeld; obtain ⟨f0, f1, f2, f3, f4, f5⟩ := HCe.out _ hSw; go_simp⟩) hHeld ?_
      try simp only [Act.put]
      try simp only [List.getElem_toArray]
      try simp only [List.getElem_cons_succ]
      try simp only [List.getElem_cons_zero]
      try simp only [List.setIfInBounds_toArray]
      try simp only [List.set_cons_succ, List.set_cons_zero]
      refine wpAnyH_take (i := 11) (v := .pointer (some ⟨b, 0, none⟩)) rfl (by kernel_rfl) (by kernel_rfl) (by kernel_rfl) (fun _ _ _ h => h) (Or.inl ⟨by kernel_rfl, fun w1 hSw => by clear hHeld; obtain ⟨f0, f1, f2, f3, f4, f5⟩ := HCe.out _ hSw; go_simp⟩) hHeld ?_
      try simp only [Act.put]
      try simp only [List.getElem_toArray]
      try simp only [List.getElem_cons_succ]
      try simp only [List.getElem_cons_zero]
      try simp only [List.setIfInBounds_toArray]
      try simp only [List.set_cons_succ, List.set_cons_zero]
      refine wpAnyH_take (i := 12) (v := .pointer (some ⟨b, 0, none⟩)) rfl (by kernel_rfl) (by kernel_rfl) (by kernel_rfl) (fun _ _ _ h => h) (Or.inl ⟨by kernel_rfl, fun w1 hSw => by clear hHeld; obtain ⟨f0, f1, f2, f3, f4, f5⟩ := HCe.out _ hSw; go_simp⟩) hHeld ?_
      try simp only [Act.put]
      try simp only [List.getElem_toArray]
      try simp only [List.getElem_cons_succ]
      try simp only [List.getElem_cons_zero]
      try simp only [List.setIfInBounds_toArray]
      try simp only [List.set_cons_succ, List.set_cons_zero]
      refine wpAnyH_take (i := 13) (v := .slice (some ⟨g, 0, none⟩) h.jobs.length cap) rfl (by kernel_rfl) (by kernel_rfl) (by kernel_rfl) (fun _ _ _ h => h) (Or.inl ⟨by kernel_rfl, fun w1 hSw => by clear hHeld; obtain ⟨f0, f1, f2, f3, f4, f5⟩ := HCe.out _ hSw; go_simp⟩) hHeld ?_
      try simp only [Act.put]
      try simp only [List.getElem_toArray]
      try simp only [List.getElem_cons_succ]
      try simp only [List.getElem_cons_zero]
      try simp only [List.setIfInBounds_toArray]
      try simp only [List.set_cons_succ, List.set_cons_zero]
      refine wpAnyH_take (i := 14) (v := .pointer (some ⟨w.heap.size, 4, none⟩)) rfl (by kernel_rfl) (by kernel_rfl) (by kernel_rfl) (fun _ _ _ h => h) (Or.inl ⟨by kernel_rfl, fun w1 hSw => by clear hHeld; obtain ⟨f0, f1, f2, f3, f4, f5⟩ := HCe.out _ hSw; go_simp⟩) hHeld ?_
      try simp only [Act.put]
      try simp only [List.getElem_toArray]
      try simp only [List.getElem_cons_succ]
      try simp only [List.getElem_cons_zero]
      try simp only [List.setIfInBounds_toArray]
      try simp only [List.set_cons_succ, List.set_cons_zero]
      refine wpAnyH_take (i := 15) (v := .int .i64 ((i : Int) + 1)) rfl (by kernel_rfl) (by kernel_rfl) (by kernel_rfl) (fun _ _ _ h => h) (Or.inl ⟨by kernel_rfl, fun w1 hSw => by clear hHeld; obtain ⟨f0, f1, f2, f3, f4, f5⟩ := HCe.out _ hSw; go_simp⟩) hHeld ?_
      try simp only [Act.put]
      try simp only [List.getElem_toArray]
      try simp only [List.getElem_cons_succ]
      try simp only [List.getElem_cons_zero]
      try simp only [List.setIfInBounds_toArray]
      try simp only [List.set_cons_succ, List.set_cons_zero]
      refine wpAnyH_take (i := 16) (v := .int .i64 (i : Int)) rfl (by kernel_rfl) (by kernel_rfl) (by kernel_rfl) (fun _ _ _ h => h) (Or.inl ⟨by kernel_rfl, fun w1 hSw => by clear hHeld; obtain ⟨f0, f1, f2, f3, f4, f5⟩ := HCe.out _ hSw; go_simp⟩) hHeld ?_
      try simp only [Act.put]
      try simp only [List.getElem_toArray]
      try simp only [List.getElem_cons_succ]
      try simp only [List.getElem_cons_zero]
      try simp only [List.setIfInBounds_toArray]
      try simp only [List.set_cons_succ, List.set_cons_zero]
      refine wpAnyH_take (i := 17) (v := .pointer (some ⟨g, i * 5, none⟩)) rfl (by kernel_rfl) (by kernel_rfl) (by kernel_rfl) (fun _ _ _ h => h) (Or.inl ⟨by kernel_rfl, fun w1 hSw => by clear hHeld; obtain ⟨f0, f1, f2, f3, f4, f5⟩ := HCe.out _ hSw; go_simp⟩) hHeld ?_
      try simp only [Act.put]
      try simp only [List.getElem_toArray]
      try simp only [List.getElem_cons_succ]
      try simp only [List.getElem_cons_zero]
      try simp only [List.setIfInBounds_toArray]
      try simp only [List.set_cons_succ, List.set_cons_zero]
      refine wpAnyH_take (i := 18) (v := .pointer (some ⟨g, i * 5 + 4, none⟩)) rfl (by kernel_rfl) (by kernel_rfl) (by kernel_rfl) (fun _ _ _ h => h) (Or.inl ⟨by kernel_rfl, fun w1 hSw => by clear hHeld; obtain ⟨f0, f1, f2, f3, f4, f5⟩ := HCe.out _ hSw; go_simp⟩) hHeld ?_
      try simp only [Act.put]
      try simp only [List.getElem_toArray]
      try simp only [List.getElem_cons_succ]
      try simp only [List.getElem_cons_zero]
      try simp only [List.setIfInBounds_toArray]
      try simp only [List.set_cons_succ, List.set_cons_zero]
      refine wpAnyH_take (i := 19) (v := .slice p (jat h i).lg.length cp) rfl (by kernel_rfl) (by kernel_rfl) (by kernel_rfl) (fun _ _ _ h => h) (Or.inl ⟨by kernel_rfl, fun w1 hSw => by clear hHeld; obtain ⟨f0, f1, f2, f3, f4, f5⟩ := HCe.out _ hSw; go_simp⟩) hHeld ?_
      try simp only [Act.put]
      try simp only [List.getElem_toArray]
      try simp only [List.getElem_cons_succ]
      try simp only [List.getElem_cons_zero]
      try simp only [List.setIfInBounds_toArray]
      try simp only [List.set_cons_succ, List.set_cons_zero]
      refine wpAnyH_take (i := 20) (v := .int .i64 LN) rfl (by kernel_rfl) (by kernel_rfl) (by kernel_rfl) (fun _ _ _ h => h) (Or.inl ⟨by kernel_rfl, fun w1 hSw => by clear hHeld; obtain ⟨f0, f1, f2, f3, f4, f5⟩ := HCe.out _ hSw; go_simp⟩) hHeld ?_
      try simp only [Act.put]
      try simp only [List.getElem_toArray]
      try simp only [List.getElem_cons_succ]
      try simp only [List.getElem_cons_zero]
      try simp only [List.setIfInBounds_toArray]
      try simp only [List.set_cons_succ, List.set_cons_zero]
      refine wpAnyH_ready (rs := [21]) (by kernel_rfl) (by simp) ?_
      refine AllReadyH.cons rfl (fun K hK => ?_) AllReadyH.nil
      go_simp
      refine (HEa.out _ hHeld.1).mono ?_
      rintro e V2 ⟨rfl, hb⟩
      have HS2 := hide (⟨below_of hHeld.1 hb, (hb.block _ (lt_of_block hHeld.2)).trans hHeld.2⟩ : _ ∧ _)
      have HY2 := hide (HY1.out.low hb)
      clear hb
      refine hK.out _ _ (HS2.out) (fun hHeld => ?_)
      clear hK K
      try simp only [Act.put]
      try simp only [List.getElem_toArray]
      try simp only [List.getElem_cons_succ]
      try simp only [List.getElem_cons_zero]
      try simp only [List.setIfInBounds_toArray]
      try simp only [List.set_cons_succ, List.set_cons_zero]
      refine wpAnyH_take (i := 22) (v := .bool (!ea1)) rfl (by kernel_rfl) (by kernel_rfl) (by kernel_rfl) (fun _ _ _ h => h) (Or.inl ⟨by kernel_rfl, fun w1 hSw => by clear hHeld; obtain ⟨f0, f1, f2, f3, f4, f5⟩ := HCe.out _ hSw; go_simp⟩) hHeld ?_
      try simp only [Act.put]
      try simp only [List.getElem_toArray]
      try simp only [List.getElem_cons_succ]
      try simp only [List.getElem_cons_zero]
      try simp only [List.setIfInBounds_toArray]
      try simp only [List.set_cons_succ, List.set_cons_zero]
      refine wpAnyH_take (i := 23) (v := .bool (!ea1)) rfl (by kernel_rfl) (by kernel_rfl) (by kernel_rfl) (fun _ _ _ h => h) (Or.inl ⟨by kernel_rfl, fun w1 hSw => by clear hHeld; obtain ⟨f0, f1, f2, f3, f4, f5⟩ := HCe.out _ hSw; go_simp⟩) hHeld ?_
      try simp only [Act.put]
      try simp only [List.getElem_toArray]
      try simp only [List.getElem_cons_succ]
      try simp only [List.getElem_cons_zero]
      try simp only [List.setIfInBounds_toArray]
      try simp only [List.set_cons_succ, List.set_cons_zero]
      refine wpAnyH_take (i := 24) (v := .pointer (some ⟨w.heap.size + 1, 6, none⟩)) rfl (by kernel_rfl) (by kernel_rfl) (by kernel_rfl) (fun _ _ _ h => h) (Or.inl ⟨by kernel_rfl, fun w1 hSw => by clear hHeld; obtain ⟨f0, f1, f2, f3, f4, f5⟩ := HCe.out _ hSw; go_simp⟩) hHeld ?_
      try simp only [Act.put]
      try simp only [List.getElem_toArray]
      try simp only [List.getElem_cons_succ]
      try simp only [List.getElem_cons_zero]
      try simp only [List.setIfInBounds_toArray]
      try simp only [List.set_cons_succ, List.set_cons_zero]
      refine wpAnyH_ready (rs := [25]) (by kernel_rfl) (by simp) ?_
      refine AllReadyH.cons rfl (fun K hK => ?_) AllReadyH.nil
      have sz : V2.frozen? ⟨w.heap.size + 1, 6, none⟩ = false := by simp [World.frozen?, HY2.out.ru]
      have sc : V2.cell? ⟨w.heap.size + 1, 6, none⟩ = some (.bool false) := by simp [World.cell?, HY2.out.ru]
      have HYs := hide (HY2.out.set 6 (.bool (!ea1)))
      have HSs : Hid ((fun V => Below w.heap.size w V ∧ V.heap[w.heap.size]? = some (.cells #[.int .i64 ek, .int .i64 eo, .int .i64 en, .int .i64 el, .int .i64 ((i : Int) + 1), .int .i64 eb, .int .i64 ei, .int .i64 ec, .int .i64 es, .int .i64 er, .int .u64 ew, .string ex, .slice q et.length cq] 43 (0, 0))) (V2.setCell ⟨w.heap.size + 1, 6, none⟩ (.bool (!ea1)))) := hide ⟨HYs.out.below, HYs.out.ev⟩
      clear hHeld
      go_simp
      refine hK.out _ _ (HSs.out) (fun hHeld => ?_)
      clear hK K
      try simp only [Act.put]
      try simp only [List.getElem_toArray]
      try simp only [List.getElem_cons_succ]
      try simp only [List.getElem_cons_zero]
      try simp only [List.setIfInBounds_toArray]
      try simp only [List.set_cons_succ, List.set_cons_zero]
      refine wpAnyH_done (by kernel_rfl) ?_ _
      have y0 := True.intro
      have y1 := True.intro
      have y2 := True.intro
      have y3 := True.intro
      have y4 := True.intro
      have y5 := True.intro
      have y6 := True.intro
      have y7 := True.intro
      have y8 := True.intro
      have yz := True.intro
      go_upto_region 5 with (fail)
      obtain ⟨V, hV⟩ : ∃ V, V2.setCell ⟨w.heap.size + 1, 6, none⟩ (.bool (!ea1)) = V := ⟨_, rfl⟩
      rw [hV] at HYs ⊢
      clear hV
      clear y0 y1 y2 y3 y4 y5 y6 y7 y8 yz
      have y0 : V.cell? ⟨w.heap.size + 1, 0, none⟩ = some (.bool false) := by simp [World.cell?, HYs.out.ru]
      have y1 : V.cell? ⟨w.heap.size + 1, 1, none⟩ = some (.bool true) := by simp [World.cell?, HYs.out.ru]
      have y2 : V.cell? ⟨w.heap.size + 1, 2, none⟩ = some (.bool (!ew1)) := by simp [World.cell?, HYs.out.ru]
      have y3 : V.cell? ⟨w.heap.size + 1, 3, none⟩ = some (.bool false) := by simp [World.cell?, HYs.out.ru]
      have y4 : V.cell? ⟨w.heap.size + 1, 4, none⟩ = some (.bool false) := by simp [World.cell?, HYs.out.ru]
      have y5 : V.cell? ⟨w.heap.size + 1, 5, none⟩ = some (.bool false) := by simp [World.cell?, HYs.out.ru]
      have y6 : V.cell? ⟨w.heap.size + 1, 6, none⟩ = some (.bool (!ea1)) := by simp [World.cell?, HYs.out.ru]
      have y7 : V.cell? ⟨w.heap.size + 1, 7, none⟩ = some (.bool false) := by simp [World.cell?, HYs.out.ru]
      have y8 : V.cell? ⟨w.heap.size + 1, 8, none⟩ = some (.bool false) := by simp [World.cell?, HYs.out.ru]
      have yz : ∀ k, V.frozen? ⟨w.heap.size + 1, k, none⟩ = false := fun k => by simp [World.frozen?, HYs.out.ru]
      have hru : V.heap[w.heap.size + 1]? = some (.cells #[.bool false, .bool true, .bool (!ew1), .bool false, .bool false, .bool false, .bool (!ea1), .bool false, .bool false] 60 (0, 0)) := by simpa using HYs.out.ru
      have HR9 := hide (put9 hru)
      have HB9 := hide (below9 (c0 := .bool false) (c1 := .bool true) (c2 := .bool (!ew1)) (c3 := .bool false) (c4 := .bool false) (c5 := .bool false) (c6 := .bool (!ea1)) (c7 := .bool false) (c8 := .bool false) HYs.out.below (Nat.le_succ _))
      clear hru
      go_wp2_with fail
      refine bodyPost_ret (results_rul (fn := Try.f40) rfl _ _ (w.heap.size + 1) #[.bool false, .bool true, .bool (!ew1), .bool false, .bool false, .bool false, .bool (!ea1), .bool false, .bool false] rfl HR9.out rfl) rfl ?_
      exact ⟨rfl, HB9.out⟩
    | false =>
      go_enter Try.func40, Try.ntmps40
      go_wp2_with fail
      refine (HSt.out _ HX.out.below).mono ?_
      rintro e w1 ⟨rfl, hb⟩
      have HX1 := hide (HX.out.low hb)
      have x0 : w1.cell? ⟨w.heap.size, 0, none⟩ = some (.int .i64 ek) := by simp [World.cell?, HX1.out.ev]
      have x1 : w1.cell? ⟨w.heap.size, 1, none⟩ = some (.int .i64 eo) := by simp [World.cell?, HX1.out.ev]
      have x2 : w1.cell? ⟨w.heap.size, 2, none⟩ = some (.int .i64 en) := by simp [World.cell?, HX1.out.ev]
      have x3 : w1.cell? ⟨w.heap.size, 3, none⟩ = some (.int .i64 el) := by simp [World.cell?, HX1.out.ev]
      have x4 : w1.cell? ⟨w.heap.size, 4, none⟩ = some (.int .i64 ((i : Int) + 1)) := by simp [World.cell?, HX1.out.ev]
      have x5 : w1.cell? ⟨w.heap.size, 5, none⟩ = some (.int .i64 eb) := by simp [World.cell?, HX1.out.ev]
      have x6 : w1.cell? ⟨w.heap.size, 6, none⟩ = some (.int .i64 ei) := by simp [World.cell?, HX1.out.ev]
      have x7 : w1.cell? ⟨w.heap.size, 7, none⟩ = some (.int .i64 ec) := by simp [World.cell?, HX1.out.ev]
      have x8 : w1.cell? ⟨w.heap.size, 8, none⟩ = some (.int .i64 es) := by simp [World.cell?, HX1.out.ev]
      have x9 : w1.cell? ⟨w.heap.size, 9, none⟩ = some (.int .i64 er) := by simp [World.cell?, HX1.out.ev]
      have x10 : w1.cell? ⟨w.heap.size, 10, none⟩ = some (.int .u64 ew) := by simp [World.cell?, HX1.out.ev]
      have x11 : w1.cell? ⟨w.heap.size, 11, none⟩ = some (.string ex) := by simp [World.cell?, HX1.out.ev]
      have x12 : w1.cell? ⟨w.heap.size, 12, none⟩ = some (.slice q et.length cq) := by simp [World.cell?, HX1.out.ev]
      have y0 : w1.cell? ⟨w.heap.size + 1, 0, none⟩ = some (.bool false) := by simp [World.cell?, HX1.out.ru]
      have y1 : w1.cell? ⟨w.heap.size + 1, 1, none⟩ = some (.bool false) := by simp [World.cell?, HX1.out.ru]
      have y2 : w1.cell? ⟨w.heap.size + 1, 2, none⟩ = some (.bool false) := by simp [World.cell?, HX1.out.ru]
      have y3 : w1.cell? ⟨w.heap.size + 1, 3, none⟩ = some (.bool false) := by simp [World.cell?, HX1.out.ru]
      have y4 : w1.cell? ⟨w.heap.size + 1, 4, none⟩ = some (.bool false) := by simp [World.cell?, HX1.out.ru]
      have y5 : w1.cell? ⟨w.heap.size + 1, 5, none⟩ = some (.bool false) := by simp [World.cell?, HX1.out.ru]
      have y6 : w1.cell? ⟨w.heap.size + 1, 6, none⟩ = some (.bool false) := by simp [World.cell?, HX1.out.ru]
      have y7 : w1.cell? ⟨w.heap.size + 1, 7, none⟩ = some (.bool false) := by simp [World.cell?, HX1.out.ru]
      have y8 : w1.cell? ⟨w.heap.size + 1, 8, none⟩ = some (.bool false) := by simp [World.cell?, HX1.out.ru]
      have yz : ∀ k, w1.frozen? ⟨w.heap.size + 1, k, none⟩ = false := fun k => by simp [World.frozen?, HX1.out.ru]
      clear hb
      have HX2 := hide (HX1.out.set 1 (.bool false))
      go_wp2_with fail
      refine (HSt.out _ HX2.out.below).mono ?_
      rintro e w3 ⟨rfl, hb⟩
      have HX3 := hide (HX2.out.low hb)
      have x0 : w3.cell? ⟨w.heap.size, 0, none⟩ = some (.int .i64 ek) := by simp [World.cell?, HX3.out.ev]
      have x1 : w3.cell? ⟨w.heap.size, 1, none⟩ = some (.int .i64 eo) := by simp [World.cell?, HX3.out.ev]
      have x2 : w3.cell? ⟨w.heap.size, 2, none⟩ = some (.int .i64 en) := by simp [World.cell?, HX3.out.ev]
      have x3 : w3.cell? ⟨w.heap.size, 3, none⟩ = some (.int .i64 el) := by simp [World.cell?, HX3.out.ev]
      have x4 : w3.cell? ⟨w.heap.size, 4, none⟩ = some (.int .i64 ((i : Int) + 1)) := by simp [World.cell?, HX3.out.ev]
      have x5 : w3.cell? ⟨w.heap.size, 5, none⟩ = some (.int .i64 eb) := by simp [World.cell?, HX3.out.ev]
      have x6 : w3.cell? ⟨w.heap.size, 6, none⟩ = some (.int .i64 ei) := by simp [World.cell?, HX3.out.ev]
      have x7 : w3.cell? ⟨w.heap.size, 7, none⟩ = some (.int .i64 ec) := by simp [World.cell?, HX3.out.ev]
      have x8 : w3.cell? ⟨w.heap.size, 8, none⟩ = some (.int .i64 es) := by simp [World.cell?, HX3.out.ev]
      have x9 : w3.cell? ⟨w.heap.size, 9, none⟩ = some (.int .i64 er) := by simp [World.cell?, HX3.out.ev]
      have x10 : w3.cell? ⟨w.heap.size, 10, none⟩ = some (.int .u64 ew) := by simp [World.cell?, HX3.out.ev]
      have x11 : w3.cell? ⟨w.heap.size, 11, none⟩ = some (.string ex) := by simp [World.cell?, HX3.out.ev]
      have x12 : w3.cell? ⟨w.heap.size, 12, none⟩ = some (.slice q et.length cq) := by simp [World.cell?, HX3.out.ev]
      have y0 : w3.cell? ⟨w.heap.size + 1, 0, none⟩ = some (.bool false) := by simp [World.cell?, HX3.out.ru]
      have y1 : w3.cell? ⟨w.heap.size + 1, 1, none⟩ = some (.bool false) := by simp [World.cell?, HX3.out.ru]
      have y2 : w3.cell? ⟨w.heap.size + 1, 2, none⟩ = some (.bool false) := by simp [World.cell?, HX3.out.ru]
      have y3 : w3.cell? ⟨w.heap.size + 1, 3, none⟩ = some (.bool false) := by simp [World.cell?, HX3.out.ru]
      have y4 : w3.cell? ⟨w.heap.size + 1, 4, none⟩ = some (.bool false) := by simp [World.cell?, HX3.out.ru]
      have y5 : w3.cell? ⟨w.heap.size + 1, 5, none⟩ = some (.bool false) := by simp [World.cell?, HX3.out.ru]
      have y6 : w3.cell? ⟨w.heap.size + 1, 6, none⟩ = some (.bool false) := by simp [World.cell?, HX3.out.ru]
      have y7 : w3.cell? ⟨w.heap.size + 1, 7, none⟩ = some (.bool false) := by simp [World.cell?, HX3.out.ru]
      have y8 : w3.cell? ⟨w.heap.size + 1, 8, none⟩ = some (.bool false) := by simp [World.cell?, HX3.out.ru]
      have yz : ∀ k, w3.frozen? ⟨w.heap.size + 1, k, none⟩ = false := fun k => by simp [World.frozen?, HX3.out.ru]
      clear hb
      go_wp2_with fail
      refine (HH.out _ HX3.out.below).mono ?_
      rintro e w4 ⟨rfl, hb⟩
      have HX4 := hide (HX3.out.low hb)
      have x0 : w4.cell? ⟨w.heap.size, 0, none⟩ = some (.int .i64 ek) := by simp [World.cell?, HX4.out.ev]
      have x1 : w4.cell? ⟨w.heap.size, 1, none⟩ = some (.int .i64 eo) := by simp [World.cell?, HX4.out.ev]
      have x2 : w4.cell? ⟨w.heap.size, 2, none⟩ = some (.int .i64 en) := by simp [World.cell?, HX4.out.ev]
      have x3 : w4.cell? ⟨w.heap.size, 3, none⟩ = some (.int .i64 el) := by simp [World.cell?, HX4.out.ev]
      have x4 : w4.cell? ⟨w.heap.size, 4, none⟩ = some (.int .i64 ((i : Int) + 1)) := by simp [World.cell?, HX4.out.ev]
      have x5 : w4.cell? ⟨w.heap.size, 5, none⟩ = some (.int .i64 eb) := by simp [World.cell?, HX4.out.ev]
      have x6 : w4.cell? ⟨w.heap.size, 6, none⟩ = some (.int .i64 ei) := by simp [World.cell?, HX4.out.ev]
      have x7 : w4.cell? ⟨w.heap.size, 7, none⟩ = some (.int .i64 ec) := by simp [World.cell?, HX4.out.ev]
      have x8 : w4.cell? ⟨w.heap.size, 8, none⟩ = some (.int .i64 es) := by simp [World.cell?, HX4.out.ev]
      have x9 : w4.cell? ⟨w.heap.size, 9, none⟩ = some (.int .i64 er) := by simp [World.cell?, HX4.out.ev]
      have x10 : w4.cell? ⟨w.heap.size, 10, none⟩ = some (.int .u64 ew) := by simp [World.cell?, HX4.out.ev]
      have x11 : w4.cell? ⟨w.heap.size, 11, none⟩ = some (.string ex) := by simp [World.cell?, HX4.out.ev]
      have x12 : w4.cell? ⟨w.heap.size, 12, none⟩ = some (.slice q et.length cq) := by simp [World.cell?, HX4.out.ev]
      have y0 : w4.cell? ⟨w.heap.size + 1, 0, none⟩ = some (.bool false) := by simp [World.cell?, HX4.out.ru]
      have y1 : w4.cell? ⟨w.heap.size + 1, 1, none⟩ = some (.bool false) := by simp [World.cell?, HX4.out.ru]
      have y2 : w4.cell? ⟨w.heap.size + 1, 2, none⟩ = some (.bool false) := by simp [World.cell?, HX4.out.ru]
      have y3 : w4.cell? ⟨w.heap.size + 1, 3, none⟩ = some (.bool false) := by simp [World.cell?, HX4.out.ru]
      have y4 : w4.cell? ⟨w.heap.size + 1, 4, none⟩ = some (.bool false) := by simp [World.cell?, HX4.out.ru]
      have y5 : w4.cell? ⟨w.heap.size + 1, 5, none⟩ = some (.bool false) := by simp [World.cell?, HX4.out.ru]
      have y6 : w4.cell? ⟨w.heap.size + 1, 6, none⟩ = some (.bool false) := by simp [World.cell?, HX4.out.ru]
      have y7 : w4.cell? ⟨w.heap.size + 1, 7, none⟩ = some (.bool false) := by simp [World.cell?, HX4.out.ru]
      have y8 : w4.cell? ⟨w.heap.size + 1, 8, none⟩ = some (.bool false) := by simp [World.cell?, HX4.out.ru]
      have yz : ∀ k, w4.frozen? ⟨w.heap.size + 1, k, none⟩ = false := fun k => by simp [World.frozen?, HX4.out.ru]
      clear hb
      have HX5 := hide (HX4.out.set 4 (.bool (!hd)))
      go_wp2_with fail
      refine (HEw.out _ HX5.out.below).mono ?_
      rintro e w6 ⟨rfl, hb⟩
      have HX6 := hide (HX5.out.low hb)
      have x0 : w6.cell? ⟨w.heap.size, 0, none⟩ = some (.int .i64 ek) := by simp [World.cell?, HX6.out.ev]
      have x1 : w6.cell? ⟨w.heap.size, 1, none⟩ = some (.int .i64 eo) := by simp [World.cell?, HX6.out.ev]
      have x2 : w6.cell? ⟨w.heap.size, 2, none⟩ = some (.int .i64 en) := by simp [World.cell?, HX6.out.ev]
      have x3 : w6.cell? ⟨w.heap.size, 3, none⟩ = some (.int .i64 el) := by simp [World.cell?, HX6.out.ev]
      have x4 : w6.cell? ⟨w.heap.size, 4, none⟩ = some (.int .i64 ((i : Int) + 1)) := by simp [World.cell?, HX6.out.ev]
      have x5 : w6.cell? ⟨w.heap.size, 5, none⟩ = some (.int .i64 eb) := by simp [World.cell?, HX6.out.ev]
      have x6 : w6.cell? ⟨w.heap.size, 6, none⟩ = some (.int .i64 ei) := by simp [World.cell?, HX6.out.ev]
      have x7 : w6.cell? ⟨w.heap.size, 7, none⟩ = some (.int .i64 ec) := by simp [World.cell?, HX6.out.ev]
      have x8 : w6.cell? ⟨w.heap.size, 8, none⟩ = some (.int .i64 es) := by simp [World.cell?, HX6.out.ev]
      have x9 : w6.cell? ⟨w.heap.size, 9, none⟩ = some (.int .i64 er) := by simp [World.cell?, HX6.out.ev]
      have x10 : w6.cell? ⟨w.heap.size, 10, none⟩ = some (.int .u64 ew) := by simp [World.cell?, HX6.out.ev]
      have x11 : w6.cell? ⟨w.heap.size, 11, none⟩ = some (.string ex) := by simp [World.cell?, HX6.out.ev]
      have x12 : w6.cell? ⟨w.heap.size, 12, none⟩ = some (.slice q et.length cq) := by simp [World.cell?, HX6.out.ev]
      have y0 : w6.cell? ⟨w.heap.size + 1, 0, none⟩ = some (.bool false) := by simp [World.cell?, HX6.out.ru]
      have y1 : w6.cell? ⟨w.heap.size + 1, 1, none⟩ = some (.bool false) := by simp [World.cell?, HX6.out.ru]
      have y2 : w6.cell? ⟨w.heap.size + 1, 2, none⟩ = some (.bool false) := by simp [World.cell?, HX6.out.ru]
      have y3 : w6.cell? ⟨w.heap.size + 1, 3, none⟩ = some (.bool false) := by simp [World.cell?, HX6.out.ru]
      have y4 : w6.cell? ⟨w.heap.size + 1, 4, none⟩ = some (.bool (!hd)) := by simp [World.cell?, HX6.out.ru]
      have y5 : w6.cell? ⟨w.heap.size + 1, 5, none⟩ = some (.bool false) := by simp [World.cell?, HX6.out.ru]
      have y6 : w6.cell? ⟨w.heap.size + 1, 6, none⟩ = some (.bool false) := by simp [World.cell?, HX6.out.ru]
      have y7 : w6.cell? ⟨w.heap.size + 1, 7, none⟩ = some (.bool false) := by simp [World.cell?, HX6.out.ru]
      have y8 : w6.cell? ⟨w.heap.size + 1, 8, none⟩ = some (.bool false) := by simp [World.cell?, HX6.out.ru]
      have yz : ∀ k, w6.frozen? ⟨w.heap.size + 1, k, none⟩ = false := fun k => by simp [World.frozen?, HX6.out.ru]
      clear hb
      have HX7 := hide (HX6.out.set 2 (.bool (!ew1)))
      go_upto_region 4 with (fail)
      obtain ⟨W4, hV⟩ : ∃ V, w6.setCell ⟨w.heap.size + 1, 2, none⟩ (.bool (!ew1)) = V := ⟨_, rfl⟩
      rw [hV] at HX7 ⊢
      clear hV
      have HS0 : Hid ((fun V => Below w.heap.size w V ∧ V.heap[w.heap.size]? = some (.cells #[.int .i64 ek, .int .i64 eo, .int .i64 en, .int .i64 el, .int .i64 ((i : Int) + 1), .int .i64 eb, .int .i64 ei, .int .i64 ec, .int .i64 es, .int .i64 er, .int .u64 ew, .string ex, .slice q et.length cq] 43 (0, 0))) (W4.drew)) := hide ⟨HX7.out.below.drew, HX7.out.ev⟩
      have HY0 := hide (HX7.out.low (Below.refl _ _).drew)
      clear x0 x1 x2 x3 x4 x5 x6 x7 x8 x9 x10 x11 x12 y0 y1 y2 y3 y4 y5 y6 y7 y8 yz
      have HCe : Hid (∀ w' : World, (fun V => Below w.heap.size w V ∧ V.heap[w.heap.size]? = some (.cells #[.int .i64 ek, .int .i64 eo, .int .i64 en, .int .i64 el, .int .i64 ((i : Int) + 1), .int .i64 eb, .int .i64 ei, .int .i64 ec, .int .i64 es, .int .i64 er, .int .u64 ew, .string ex, .slice q et.length cq] 43 (0, 0))) w' → w'.cell? ⟨w.heap.size, 4, none⟩ = some (.int .i64 ((i : Int) + 1)) ∧ w'.cell? ⟨w.heap.size, 5, none⟩ = some (.int .i64 eb) ∧ w'.cell? ⟨w.heap.size, 6, none⟩ = some (.int .i64 ei) ∧ w'.cell? ⟨w.heap.size, 12, none⟩ = some (.slice q et.length cq) ∧ w'.cell? ⟨b, 0, none⟩ = some (.slice (some ⟨g, 0, none⟩) h.jobs.length cap) ∧ w'.cell? ⟨g, i * 5 + 4, none⟩ = some (.slice p (jat h i).lg.length cp)) := hide fun w' hw => ⟨by simp [World.cell?, hw.2], by simp [World.cell?, hw.2], by simp [World.cell?, hw.2], by simp [World.cell?, hw.2], (HA.out _ hw.1).1, (HA.out _ hw.1).2⟩
      refine wp_region_held_drew (S := fun V => Below w.heap.size w V ∧ V.heap[w.heap.size]? = some (.cells #[.int .i64 ek, .int .i64 eo, .int .i64 en, .int .i64 el, .int .i64 ((i : Int) + 1), .int .i64 eb, .int .i64 ei, .int .i64 ec, .int .i64 es, .int .i64 er, .int .u64 ew, .string ex, .slice q et.length cq] 43 (0, 0))) (by kernel_rfl) (HS0.out) (fun hHeld => ?_)
      refine wpAnyH_take (i := 0) (v := .pointer (some ⟨b, 0, none⟩)) rfl (by kernel_rfl) (by kernel_rfl) (by kernel_rfl) (fun _ _ _ h => h) (Or.inl ⟨by kernel_rfl, fun w1 hSw => by clear hHeld; obtain ⟨f0, f1, f2, f3, f4, f5⟩ := HCe.out _ hSw; go_simp⟩) hHeld ?_
      try simp only [Act.put]
      try simp only [List.getElem_toArray]
      try simp only [List.getElem_cons_succ]
      try simp only [List.getElem_cons_zero]
      try simp only [List.setIfInBounds_toArray]
      try simp only [List.set_cons_succ, List.set_cons_zero]
      refine wpAnyH_take (i := 1) (v := .pointer (some ⟨w.heap.size, 4, none⟩)) rfl (by kernel_rfl) (by kernel_rfl) (by kernel_rfl) (fun _ _ _ h => h) (Or.inl ⟨by kernel_rfl, fun w1 hSw => by clear hHeld; obtain ⟨f0, f1, f2, f3, f4, f5⟩ := HCe.out _ hSw; go_simp⟩) hHeld ?_
      try simp only [Act.put]
      try simp only [List.getElem_toArray]
      try simp only [List.getElem_cons_succ]
      try simp only [List.getElem_cons_zero]
      try simp only [List.setIfInBounds_toArray]
      try simp only [List.set_cons_succ, List.set_cons_zero]
      refine wpAnyH_take (i := 2) (v := .int .i64 ((i : Int) + 1)) rfl (by kernel_rfl) (by kernel_rfl) (by kernel_rfl) (fun _ _ _ h => h) (Or.inl ⟨by kernel_rfl, fun w1 hSw => by clear hHeld; obtain ⟨f0, f1, f2, f3, f4, f5⟩ := HCe.out _ hSw; go_simp⟩) hHeld ?_
      try simp only [Act.put]
      try simp only [List.getElem_toArray]
      try simp only [List.getElem_cons_succ]
      try simp only [List.getElem_cons_zero]
      try simp only [List.setIfInBounds_toArray]
      try simp only [List.set_cons_succ, List.set_cons_zero]
      refine wpAnyH_ready (rs := [3]) (by kernel_rfl) (by simp) ?_
      refine AllReadyH.cons rfl (fun K hK => ?_) AllReadyH.nil
      go_simp
      refine (HK.out _ hHeld.1).mono ?_
      rintro e V1 ⟨rfl, hb⟩
      have HS1 := hide (⟨below_of hHeld.1 hb, (hb.block _ (lt_of_block hHeld.2)).trans hHeld.2⟩ : _ ∧ _)
      have HY1 := hide (HY0.out.low hb)
      clear hb
      refine hK.out _ _ (HS1.out) (fun hHeld => ?_)
      clear hK K
      try simp only [Act.put]
      try simp only [List.getElem_toArray]
      try simp only [List.getElem_cons_succ]
      try simp only [List.getElem_cons_zero]
      try simp only [List.setIfInBounds_toArray]
      try simp only [List.set_cons_succ, List.set_cons_zero]
      refine wpAnyH_take (i := 4) (v := .bool true) rfl (by kernel_rfl) (by kernel_rfl) (by kernel_rfl) (fun _ _ _ h => h) (Or.inl ⟨by kernel_rfl, fun w1 hSw => by clear hHeld; obtain ⟨f0, f1, f2, f3, f4, f5⟩ := HCe.out _ hSw; go_simp⟩) hHeld ?_
      try simp only [Act.put]
      try simp only [List.getElem_toArray]
      try simp only [List.getElem_cons_succ]
      try simp only [List.getElem_cons_zero]
      try simp only [List.setIfInBounds_toArray]
      try simp only [List.set_cons_succ, List.set_cons_zero]
      refine wpAnyH_take (i := 5) (v := .pointer (some ⟨b, 0, none⟩)) rfl (by kernel_rfl) (by kernel_rfl) (by kernel_rfl) (fun _ _ _ h => h) (Or.inl ⟨by kernel_rfl, fun w1 hSw => by clear hHeld; obtain ⟨f0, f1, f2, f3, f4, f5⟩ := HCe.out _ hSw; go_simp⟩) hHeld ?_
      try simp only [Act.put]
      try simp only [List.getElem_toArray]
      try simp only [List.getElem_cons_succ]
      try simp only [List.getElem_cons_zero]
      try simp only [List.setIfInBounds_toArray]
      try simp only [List.set_cons_succ, List.set_cons_zero]
      refine wpAnyH_take (i := 6) (v := .pointer (some ⟨w.heap.size, 4, none⟩)) rfl (by kernel_rfl) (by kernel_rfl) (by kernel_rfl) (fun _ _ _ h => h) (Or.inl ⟨by kernel_rfl, fun w1 hSw => by clear hHeld; obtain ⟨f0, f1, f2, f3, f4, f5⟩ := HCe.out _ hSw; go_simp⟩) hHeld ?_
      try simp only [Act.put]
      try simp only [List.getElem_toArray]
      try simp only [List.getElem_cons_succ]
      try simp only [List.getElem_cons_zero]
      try simp only [List.setIfInBounds_toArray]
      try simp only [List.set_cons_succ, List.set_cons_zero]
      refine wpAnyH_take (i := 7) (v := .int .i64 ((i : Int) + 1)) rfl (by kernel_rfl) (by kernel_rfl) (by kernel_rfl) (fun _ _ _ h => h) (Or.inl ⟨by kernel_rfl, fun w1 hSw => by clear hHeld; obtain ⟨f0, f1, f2, f3, f4, f5⟩ := HCe.out _ hSw; go_simp⟩) hHeld ?_
      try simp only [Act.put]
      try simp only [List.getElem_toArray]
      try simp only [List.getElem_cons_succ]
      try simp only [List.getElem_cons_zero]
      try simp only [List.setIfInBounds_toArray]
      try simp only [List.set_cons_succ, List.set_cons_zero]
      refine wpAnyH_take (i := 8) (v := .pointer (some ⟨w.heap.size, 5, none⟩)) rfl (by kernel_rfl) (by kernel_rfl) (by kernel_rfl) (fun _ _ _ h => h) (Or.inl ⟨by kernel_rfl, fun w1 hSw => by clear hHeld; obtain ⟨f0, f1, f2, f3, f4, f5⟩ := HCe.out _ hSw; go_simp⟩) hHeld ?_
      try simp only [Act.put]
      try simp only [List.getElem_toArray]
      try simp only [List.getElem_cons_succ]
      try simp only [List.getElem_cons_zero]
      try simp only [List.setIfInBounds_toArray]
      try simp only [List.set_cons_succ, List.set_cons_zero]
      refine wpAnyH_take (i := 9) (v := .int .i64 eb) rfl (by kernel_rfl) (by kernel_rfl) (by kernel_rfl) (fun _ _ _ h => h) (Or.inl ⟨by kernel_rfl, fun w1 hSw => by clear hHeld; obtain ⟨f0, f1, f2, f3, f4, f5⟩ := HCe.out _ hSw; go_simp⟩) hHeld ?_
      try simp only [Act.put]
      try simp only [List.getElem_toArray]
      try simp only [List.getElem_cons_succ]
      try simp only [List.getElem_cons_zero]
      try simp only [List.setIfInBounds_toArray]
      try simp only [List.set_cons_succ, List.set_cons_zero]
      refine wpAnyH_take (i := 10) (v := .pointer (some ⟨b, 0, none⟩)) rfl (by kernel_rfl) (by kernel_rfl) (by kernel_rfl) (fun _ _ _ h => h) (Or.inl ⟨by kernel_rfl, fun w1 hSw => by clear hHeld; obtain ⟨f0, f1, f2, f3, f4, f5⟩ := HCe.out _ hSw; go_simp⟩) hHeld ?_
      try simp only [Act.put]
      try simp only [List.getElem_toArray]
      try simp only [List.getElem_cons_succ]
      try simp only [List.getElem_cons_zero]
      try simp only [List.setIfInBounds_toArray]
      try simp only [List.set_cons_succ, List.set_cons_zero]
      refine wpAnyH_take (i := 11) (v := .pointer (some ⟨b, 0, none⟩)) rfl (by kernel_rfl) (by kernel_rfl) (by kernel_rfl) (fun _ _ _ h => h) (Or.inl ⟨by kernel_rfl, fun w1 hSw => by clear hHeld; obtain ⟨f0, f1, f2, f3, f4, f5⟩ := HCe.out _ hSw; go_simp⟩) hHeld ?_
      try simp only [Act.put]
      try simp only [List.getElem_toArray]
      try simp only [List.getElem_cons_succ]
      try simp only [List.getElem_cons_zero]
      try simp only [List.setIfInBounds_toArray]
      try simp only [List.set_cons_succ, List.set_cons_zero]
      refine wpAnyH_take (i := 12) (v := .pointer (some ⟨b, 0, none⟩)) rfl (by kernel_rfl) (by kernel_rfl) (by kernel_rfl) (fun _ _ _ h => h) (Or.inl ⟨by kernel_rfl, fun w1 hSw => by clear hHeld; obtain ⟨f0, f1, f2, f3, f4, f5⟩ := HCe.out _ hSw; go_simp⟩) hHeld ?_
      try simp only [Act.put]
      try simp only [List.getElem_toArray]
      try simp only [List.getElem_cons_succ]
      try simp only [List.getElem_cons_zero]
      try simp only [List.setIfInBounds_toArray]
      try simp only [List.set_cons_succ, List.set_cons_zero]
      refine wpAnyH_take (i := 13) (v := .slice (some ⟨g, 0, none⟩) h.jobs.length cap) rfl (by kernel_rfl) (by kernel_rfl) (by kernel_rfl) (fun _ _ _ h => h) (Or.inl ⟨by kernel_rfl, fun w1 hSw => by clear hHeld; obtain ⟨f0, f1, f2, f3, f4, f5⟩ := HCe.out _ hSw; go_simp⟩) hHeld ?_
      try simp only [Act.put]
      try simp only [List.getElem_toArray]
      try simp only [List.getElem_cons_succ]
      try simp only [List.getElem_cons_zero]
      try simp only [List.setIfInBounds_toArray]
      try simp only [List.set_cons_succ, List.set_cons_zero]
      refine wpAnyH_take (i := 14) (v := .pointer (some ⟨w.heap.size, 4, none⟩)) rfl (by kernel_rfl) (by kernel_rfl) (by kernel_rfl) (fun _ _ _ h => h) (Or.inl ⟨by kernel_rfl, fun w1 hSw => by clear hHeld; obtain ⟨f0, f1, f2, f3, f4, f5⟩ := HCe.out _ hSw; go_simp⟩) hHeld ?_
      try simp only [Act.put]
      try simp only [List.getElem_toArray]
      try simp only [List.getElem_cons_succ]
      try simp only [List.getElem_cons_zero]
      try simp only [List.setIfInBounds_toArray]
      try simp only [List.set_cons_succ, List.set_cons_zero]
      refine wpAnyH_take (i := 15) (v := .int .i64 ((i : Int) + 1)) rfl (by kernel_rfl) (by kernel_rfl) (by kernel_rfl) (fun _ _ _ h => h) (Or.inl ⟨by kernel_rfl, fun w1 hSw => by clear hHeld; obtain ⟨f0, f1, f2, f3, f4, f5⟩ := HCe.out _ hSw; go_simp⟩) hHeld ?_
      try simp only [Act.put]
      try simp only [List.getElem_toArray]
      try simp only [List.getElem_cons_succ]
      try simp only [List.getElem_cons_zero]
      try simp only [List.setIfInBounds_toArray]
      try simp only [List.set_cons_succ, List.set_cons_zero]
      refine wpAnyH_take (i := 16) (v := .int .i64 (i : Int)) rfl (by kernel_rfl) (by kernel_rfl) (by kernel_rfl) (fun _ _ _ h => h) (Or.inl ⟨by kernel_rfl, fun w1 hSw => by clear hHeld; obtain ⟨f0, f1, f2, f3, f4, f5⟩ := HCe.out _ hSw; go_simp⟩) hHeld ?_
      try simp only [Act.put]
      try simp only [List.getElem_toArray]
      try simp only [List.getElem_cons_succ]
      try simp only [List.getElem_cons_zero]
      try simp only [List.setIfInBounds_toArray]
      try simp only [List.set_cons_succ, List.set_cons_zero]
      refine wpAnyH_take (i := 17) (v := .pointer (some ⟨g, i * 5, none⟩)) rfl (by kernel_rfl) (by kernel_rfl) (by kernel_rfl) (fun _ _ _ h => h) (Or.inl ⟨by kernel_rfl, fun w1 hSw => by clear hHeld; obtain ⟨f0, f1, f2, f3, f4, f5⟩ := HCe.out _ hSw; go_simp⟩) hHeld ?_
      try simp only [Act.put]
      try simp only [List.getElem_toArray]
      try simp only [List.getElem_cons_succ]
      try simp only [List.getElem_cons_zero]
      try simp only [List.setIfInBounds_toArray]
      try simp only [List.set_cons_succ, List.set_cons_zero]
      refine wpAnyH_take (i := 18) (v := .pointer (some ⟨g, i * 5 + 4, none⟩)) rfl (by kernel_rfl) (by kernel_rfl) (by kernel_rfl) (fun _ _ _ h => h) (Or.inl ⟨by kernel_rfl, fun w1 hSw => by clear hHeld; obtain ⟨f0, f1, f2, f3, f4, f5⟩ := HCe.out _ hSw; go_simp⟩) hHeld ?_
      try simp only [Act.put]
      try simp only [List.getElem_toArray]
      try simp only [List.getElem_cons_succ]
      try simp only [List.getElem_cons_zero]
      try simp only [List.setIfInBounds_toArray]
      try simp only [List.set_cons_succ, List.set_cons_zero]
      refine wpAnyH_take (i := 19) (v := .slice p (jat h i).lg.length cp) rfl (by kernel_rfl) (by kernel_rfl) (by kernel_rfl) (fun _ _ _ h => h) (Or.inl ⟨by kernel_rfl, fun w1 hSw => by clear hHeld; obtain ⟨f0, f1, f2, f3, f4, f5⟩ := HCe.out _ hSw; go_simp⟩) hHeld ?_
      try simp only [Act.put]
      try simp only [List.getElem_toArray]
      try simp only [List.getElem_cons_succ]
      try simp only [List.getElem_cons_zero]
      try simp only [List.setIfInBounds_toArray]
      try simp only [List.set_cons_succ, List.set_cons_zero]
      refine wpAnyH_take (i := 20) (v := .int .i64 LN) rfl (by kernel_rfl) (by kernel_rfl) (by kernel_rfl) (fun _ _ _ h => h) (Or.inl ⟨by kernel_rfl, fun w1 hSw => by clear hHeld; obtain ⟨f0, f1, f2, f3, f4, f5⟩ := HCe.out _ hSw; go_simp⟩) hHeld ?_
      try simp only [Act.put]
      try simp only [List.getElem_toArray]
      try simp only [List.getElem_cons_succ]
      try simp only [List.getElem_cons_zero]
      try simp only [List.setIfInBounds_toArray]
      try simp only [List.set_cons_succ, List.set_cons_zero]
      refine wpAnyH_ready (rs := [21]) (by kernel_rfl) (by simp) ?_
      refine AllReadyH.cons rfl (fun K hK => ?_) AllReadyH.nil
      go_simp
      refine (HEa.out _ hHeld.1).mono ?_
      rintro e V2 ⟨rfl, hb⟩
      have HS2 := hide (⟨below_of hHeld.1 hb, (hb.block _ (lt_of_block hHeld.2)).trans hHeld.2⟩ : _ ∧ _)
      have HY2 := hide (HY1.out.low hb)
      clear hb
      refine hK.out _ _ (HS2.out) (fun hHeld => ?_)
      clear hK K
      try simp only [Act.put]
      try simp only [List.getElem_toArray]
      try simp only [List.getElem_cons_succ]
      try simp only [List.getElem_cons_zero]
      try simp only [List.setIfInBounds_toArray]
      try simp only [List.set_cons_succ, List.set_cons_zero]
      refine wpAnyH_take (i := 22) (v := .bool (!ea1)) rfl (by kernel_rfl) (by kernel_rfl) (by kernel_rfl) (fun _ _ _ h => h) (Or.inl ⟨by kernel_rfl, fun w1 hSw => by clear hHeld; obtain ⟨f0, f1, f2, f3, f4, f5⟩ := HCe.out _ hSw; go_simp⟩) hHeld ?_
      try simp only [Act.put]
      try simp only [List.getElem_toArray]
      try simp only [List.getElem_cons_succ]
      try simp only [List.getElem_cons_zero]
      try simp only [List.setIfInBounds_toArray]
      try simp only [List.set_cons_succ, List.set_cons_zero]
      refine wpAnyH_take (i := 23) (v := .bool (!ea1)) rfl (by kernel_rfl) (by kernel_rfl) (by kernel_rfl) (fun _ _ _ h => h) (Or.inl ⟨by kernel_rfl, fun w1 hSw => by clear hHeld; obtain ⟨f0, f1, f2, f3, f4, f5⟩ := HCe.out _ hSw; go_simp⟩) hHeld ?_
      try simp only [Act.put]
      try simp only [List.getElem_toArray]
      try simp only [List.getElem_cons_succ]
      try simp only [List.getElem_cons_zero]
      try simp only [List.setIfInBounds_toArray]
      try simp only [List.set_cons_succ, List.set_cons_zero]
      refine wpAnyH_take (i := 24) (v := .pointer (some ⟨w.heap.size + 1, 6, none⟩)) rfl (by kernel_rfl) (by kernel_rfl) (by kernel_rfl) (fun _ _ _ h => h) (Or.inl ⟨by kernel_rfl, fun w1 hSw => by clear hHeld; obtain ⟨f0, f1, f2, f3, f4, f5⟩ := HCe.out _ hSw; go_simp⟩) hHeld ?_
      try simp only [Act.put]
      try simp only [List.getElem_toArray]
      try simp only [List.getElem_cons_succ]
      try simp only [List.getElem_cons_zero]
      try simp only [List.setIfInBounds_toArray]
      try simp only [List.set_cons_succ, List.set_cons_zero]
      refine wpAnyH_ready (rs := [25]) (by kernel_rfl) (by simp) ?_
      refine AllReadyH.cons rfl (fun K hK => ?_) AllReadyH.nil
      have sz : V2.frozen? ⟨w.heap.size + 1, 6, none⟩ = false := by simp [World.frozen?, HY2.out.ru]
      have sc : V2.cell? ⟨w.heap.size + 1, 6, none⟩ = some (.bool false) := by simp [World.cell?, HY2.out.ru]
      have HYs := hide (HY2.out.set 6 (.bool (!ea1)))
      have HSs : Hid ((fun V => Below w.heap.size w V ∧ V.heap[w.heap.size]? = some (.cells #[.int .i64 ek, .int .i64 eo, .int .i64 en, .int .i64 el, .int .i64 ((i : Int) + 1), .int .i64 eb, .int .i64 ei, .int .i64 ec, .int .i64 es, .int .i64 er, .int .u64 ew, .string ex, .slice q et.length cq] 43 (0, 0))) (V2.setCell ⟨w.heap.size + 1, 6, none⟩ (.bool (!ea1)))) := hide ⟨HYs.out.below, HYs.out.ev⟩
      clear hHeld
      go_simp
      refine hK.out _ _ (HSs.out) (fun hHeld => ?_)
      clear hK K
      try simp only [Act.put]
      try simp only [List.getElem_toArray]
      try simp only [List.getElem_cons_succ]
      try simp only [List.getElem_cons_zero]
      try simp only [List.setIfInBounds_toArray]
      try simp only [List.set_cons_succ, List.set_cons_zero]
      refine wpAnyH_done (by kernel_rfl) ?_ _
      have y0 := True.intro
      have y1 := True.intro
      have y2 := True.intro
      have y3 := True.intro
      have y4 := True.intro
      have y5 := True.intro
      have y6 := True.intro
      have y7 := True.intro
      have y8 := True.intro
      have yz := True.intro
      go_upto_region 5 with (fail)
      obtain ⟨V, hV⟩ : ∃ V, V2.setCell ⟨w.heap.size + 1, 6, none⟩ (.bool (!ea1)) = V := ⟨_, rfl⟩
      rw [hV] at HYs ⊢
      clear hV
      clear y0 y1 y2 y3 y4 y5 y6 y7 y8 yz
      have y0 : V.cell? ⟨w.heap.size + 1, 0, none⟩ = some (.bool false) := by simp [World.cell?, HYs.out.ru]
      have y1 : V.cell? ⟨w.heap.size + 1, 1, none⟩ = some (.bool false) := by simp [World.cell?, HYs.out.ru]
      have y2 : V.cell? ⟨w.heap.size + 1, 2, none⟩ = some (.bool (!ew1)) := by simp [World.cell?, HYs.out.ru]
      have y3 : V.cell? ⟨w.heap.size + 1, 3, none⟩ = some (.bool false) := by simp [World.cell?, HYs.out.ru]
      have y4 : V.cell? ⟨w.heap.size + 1, 4, none⟩ = some (.bool (!hd)) := by simp [World.cell?, HYs.out.ru]
      have y5 : V.cell? ⟨w.heap.size + 1, 5, none⟩ = some (.bool false) := by simp [World.cell?, HYs.out.ru]
      have y6 : V.cell? ⟨w.heap.size + 1, 6, none⟩ = some (.bool (!ea1)) := by simp [World.cell?, HYs.out.ru]
      have y7 : V.cell? ⟨w.heap.size + 1, 7, none⟩ = some (.bool false) := by simp [World.cell?, HYs.out.ru]
      have y8 : V.cell? ⟨w.heap.size + 1, 8, none⟩ = some (.bool false) := by simp [World.cell?, HYs.out.ru]
      have yz : ∀ k, V.frozen? ⟨w.heap.size + 1, k, none⟩ = false := fun k => by simp [World.frozen?, HYs.out.ru]
      have hru : V.heap[w.heap.size + 1]? = some (.cells #[.bool false, .bool false, .bool (!ew1), .bool false, .bool (!hd), .bool false, .bool (!ea1), .bool false, .bool false] 60 (0, 0)) := by simpa using HYs.out.ru
      have HR9 := hide (put9 hru)
      have HB9 := hide (below9 (c0 := .bool false) (c1 := .bool false) (c2 := .bool (!ew1)) (c3 := .bool false) (c4 := .bool (!hd)) (c5 := .bool false) (c6 := .bool (!ea1)) (c7 := .bool false) (c8 := .bool false) HYs.out.below (Nat.le_succ _))
      clear hru
      go_wp2_with fail
      refine bodyPost_ret (results_rul (fn := Try.f40) rfl _ _ (w.heap.size + 1) #[.bool false, .bool false, .bool (!ew1), .bool false, .bool (!hd), .bool false, .bool (!ea1), .bool false, .bool false] rfl HR9.out rfl) rfl ?_
      exact ⟨rfl, HB9.out⟩
end
end Go.Proofs.Ytjfgmdiafhkbgaa
