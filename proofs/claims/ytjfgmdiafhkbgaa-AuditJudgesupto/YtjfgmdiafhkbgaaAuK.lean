import Derived.Test.YtjfgmdiafhkbgaaAuJ
namespace Go.Proofs.Ytjfgmdiafhkbgaa
open Go.RowKit Go.MapKept
set_option maxRecDepth 8000

section
variable {w w' : World} {B b : Nat} {h : Hs} {s : Hi} {i : Nat}
theorem box_kt {W W' : World} {k : Nat} {cs : Array Value} (hK : Kt B W W') (hb : W.heap[k]? = some (.cells cs 43 (0, 0))) : W'.heap[k]? = some (.cells cs 43 (0, 0)) :=
  (hK.block k (lt_of_block hb) (.inr ⟨_, _, _, hb, by decide, by decide, by decide⟩)).trans hb
/-- one cell of a job is turned -/
theorem Hm.lay1 (H : Hm w B b h s) (hi : i < h.jobs.length) {g n cap : Nat} (hjv : s.jv = .slice (some ⟨g, 0, none⟩) n cap) {k : Nat} (hk : k < 5) (u : Value) (j : Jb) (hcs : ∀ v, ((jat h i).cs v).set k u = j.cs v) (hlg : j.lg = (jat h i).lg) :
    Hm (w.setCell ⟨g, i * 5 + k, none⟩ u) B b { h with jobs := h.jobs.set i j } { s with L := s.L.set i (j, (s.L[i]!).2) } ∧ Kt B w (w.setCell ⟨g, i * 5 + k, none⟩ u) := by
  obtain ⟨v0, hL, _⟩ := H.at hjv hi
  have hr := H.row
  obtain ⟨ad, cap', hv'⟩ := own_slice hr
  rw [hjv] at hv'
  injection hv' with e1 e2 e3
  subst e2
  rw [hjv] at hr
  have hst := hr.stored (i * 5 + k) u
  have hv0 : (s.L[i]!).2 = v0 := by rw [getElem!_pos s.L i (List.getElem?_eq_some_iff.1 hL).1, (List.getElem?_eq_some_iff.1 hL).2]
  rw [hv0]
  rw [jcs_set _ _ _ _ (j, v0) u hL hk (hcs v0)] at hst
  refine H.put hL hjv (grown_refl w none) (fun k e => by cases e) hst.2 (by rw [hjv]; exact hst.1) (by rw [hlg]; exact H.logs _ (List.mem_of_getElem? hL)) fun m x hm he k e1 e2 => ?_
  have hp := List.pairwise_iff_getElem.1 H.apart
  have hl1 := (List.getElem?_eq_some_iff.1 hL).1
  have hl2 := (List.getElem?_eq_some_iff.1 he).1
  have g1 := (List.getElem?_eq_some_iff.1 hL).2
  have g2 := (List.getElem?_eq_some_iff.1 he).2
  rcases Nat.lt_or_gt_of_ne hm with h5 | h5
  · have := hp m i hl2 hl1 h5 k
    rw [g1, g2] at this
    exact this e2 e1
  · have := hp i m hl1 hl2 h5 k
    rw [g1, g2] at this
    exact this e1 e2
theorem hld_lt {ba : Int} (hh : hld h i ba = true) : i < h.jobs.length := by
  unfold hld isS at hh
  simp only [Bool.and_eq_true] at hh
  simpa [knw] using hh.1.1
set_option maxHeartbeats 2000000 in
theorem submitted_any (H : Hm w B b h s) (hi8 : i < 8) (ek eo en el : Int) (eb ei ec es er ew : Int) (ex : ByteArray) {et : List ByteArray} {q : Option Addr} {cq : Nat} :
    Calls Try.prog 30 #[.pointer (some ⟨b, 0, none⟩), .agg #[.int .i64 ek, .int .i64 eo, .int .i64 en, .int .i64 el, .int .i64 ((i : Int) + 1), .int .i64 eb, .int .i64 ei, .int .i64 ec, .int .i64 es, .int .i64 er, .int .u64 ew, .string ex, .slice q et.length cq]] w fun r w' => r = .returned (.tuple #[]) ∧ (∃ s', Hm w' B b (if nxt h i = true then lt_ h i ⟨1, 0, 0, 0, []⟩ else h) s') ∧ Kt B w w' := by
  have hBa := below_alloc w (.cells #[.int .i64 ek, .int .i64 eo, .int .i64 en, .int .i64 el, .int .i64 ((i : Int) + 1), .int .i64 eb, .int .i64 ei, .int .i64 ec, .int .i64 es, .int .i64 er, .int .u64 ew, .string ex, .slice q et.length cq] 43)
  have hbk := heap_alloc_new w (.cells #[.int .i64 ek, .int .i64 eo, .int .i64 en, .int .i64 el, .int .i64 ((i : Int) + 1), .int .i64 eb, .int .i64 ei, .int .i64 ec, .int .i64 es, .int .i64 er, .int .u64 ew, .string ex, .slice q et.length cq] 43)
  have H1 := H.below hBa
  have H0 := hide H
  have HH1 := hide H1
  have HBa := hide hBa
  have HBK := hide hbk
  have l8 := H.l8
  have i8 : (i : Int) < 8 := by omega
  have HN := hide (isNext_any H1 i)
  clear H H1 hBa hbk
  cases hn : nxt h i with
  | false =>
    rw [hn] at HN
    rw [if_neg (by decide)]
    clear hn
    go_enter Try.func30, Try.ntmps30
    go_wp2_with fail
    refine HN.out.mono ?_
    rintro e w1 ⟨rfl, hb⟩
    have HB1 := hide hb
    have H2 := HH1.out.below hb
    have HH2 := hide H2
    have HK1 := hide (Kt.of_below (B := B) (below_of HBa.out hb))
    have ce := (hb.block _ (lt_of_block HBK.out)).trans HBK.out
    clear hb H2 ce
    go_wp2_with fail
    go_end0
    exact ⟨rfl, ⟨_, HH2.out⟩, HK1.out⟩
  | true =>
    rw [hn] at HN
    rw [if_pos rfl]
    have HE : Hid (i = h.jobs.length) := hide (by simpa [nxt] using hn)
    have HI8 := hide hi8
    clear hn
    go_enter Try.func30, Try.ntmps30
    go_wp2_with fail
    refine HN.out.mono ?_
    rintro e w1 ⟨rfl, hb⟩
    have HB1 := hide hb
    have H2 := HH1.out.below hb
    have HH2 := hide H2
    have HK1 := hide (Kt.of_below (B := B) (below_of HBa.out hb))
    have ce := (hb.block _ (lt_of_block HBK.out)).trans HBK.out
    have x4 : w1.cell? ⟨w.heap.size, 4, none⟩ = some (.int .i64 ((i : Int) + 1)) := by simp [World.cell?, ce]
    have HL := hide (let_any H2 (Nat.le_of_eq HE.out) HI8.out ⟨1, 0, 0, 0, []⟩ (.slice none 0 0) (World.ownsRow_nil _ _ _ _) (fun x _ k e => by cases e))
    clear hb H2 ce
    go_wp2_with fail
    refine HL.out.mono ?_
    rintro e w2 ⟨rfl, h3, h4⟩
    have H3 := hide h3
    have H4 := hide h4
    clear h3 h4
    go_wp2_with fail
    go_end0
    exact ⟨rfl, H3.out, HK1.out.trans H4.out⟩
set_option maxHeartbeats 2000000 in
theorem expired_any (H : Hm w B b h s) (hi8 : i < 8) (ek eo en el : Int) (eb ei ec es er ew : Int) (ex : ByteArray) {et : List ByteArray} {q : Option Addr} {cq : Nat} :
    Calls Try.prog 35 #[.pointer (some ⟨b, 0, none⟩), .agg #[.int .i64 ek, .int .i64 eo, .int .i64 en, .int .i64 el, .int .i64 ((i : Int) + 1), .int .i64 eb, .int .i64 ei, .int .i64 ec, .int .i64 es, .int .i64 er, .int .u64 ew, .string ex, .slice q et.length cq]] w fun r w' => r = .returned (.tuple #[]) ∧ (∃ s', Hm w' B b (if hld h i eb = true then { h with jobs := h.jobs.set i { jat h i with st := 1 } } else h) s') ∧ Kt B w w' := by
  have hBa := below_alloc w (.cells #[.int .i64 ek, .int .i64 eo, .int .i64 en, .int .i64 el, .int .i64 ((i : Int) + 1), .int .i64 eb, .int .i64 ei, .int .i64 ec, .int .i64 es, .int .i64 er, .int .u64 ew, .string ex, .slice q et.length cq] 43)
  have hbk := heap_alloc_new w (.cells #[.int .i64 ek, .int .i64 eo, .int .i64 en, .int .i64 el, .int .i64 ((i : Int) + 1), .int .i64 eb, .int .i64 ei, .int .i64 ec, .int .i64 es, .int .i64 er, .int .u64 ew, .string ex, .slice q et.length cq] 43)
  have H1 := H.below hBa
  have H0 := hide H
  have HH1 := hide H1
  have HBa := hide hBa
  have HBK := hide hbk
  have l8 := H.l8
  have i8 : (i : Int) < 8 := by omega
  have HN := hide (held_any H1 i eb)
  clear H H1 hBa hbk
  cases hn : hld h i eb with
  | false =>
    rw [hn] at HN
    rw [if_neg (by decide)]
    clear hn
    go_enter Try.func35, Try.ntmps35
    go_wp2_with fail
    refine HN.out.mono ?_
    rintro e w1 ⟨rfl, hb⟩
    have HB1 := hide hb
    have H2 := HH1.out.below hb
    have HH2 := hide H2
    have HK1 := hide (Kt.of_below (B := B) (below_of HBa.out hb))
    have ce := (hb.block _ (lt_of_block HBK.out)).trans HBK.out
    clear hb H2 ce
    go_wp2_with fail
    go_end0
    exact ⟨rfl, ⟨_, HH2.out⟩, HK1.out⟩
  | true =>
    rw [hn] at HN
    rw [if_pos rfl]
    have hi := hld_lt hn
    have ii : (i : Int) < (h.jobs.length : Int) := by omega
    have HI := hide hi
    obtain ⟨ad, cap, hjv⟩ := H0.out.form
    obtain ⟨g, rfl⟩ := H0.out.grow hjv hi
    clear hn hi
    go_enter Try.func35, Try.ntmps35
    go_wp2_with fail
    refine HN.out.mono ?_
    rintro e w1 ⟨rfl, hb⟩
    have HB1 := hide hb
    have H2 := HH1.out.below hb
    have HH2 := hide H2
    have HK1 := hide (Kt.of_below (B := B) (below_of HBa.out hb))
    have ce := (hb.block _ (lt_of_block HBK.out)).trans HBK.out
    have x4 : w1.cell? ⟨w.heap.size, 4, none⟩ = some (.int .i64 ((i : Int) + 1)) := by simp [World.cell?, ce]
    have c0 := H2.c0 hjv
    obtain ⟨v0, _, k0, _⟩ := H2.at hjv HI.out
    have z0 := H2.z5 hjv (i * 5)
    have HW := hide ((H2.below (Below.refl w1.heap.size w1).drew).lay1 HI.out hjv (k := 0) (by decide) (.int .i64 1) { jat h i with st := 1 } (fun _ => rfl) rfl)
    clear hb H2 ce
    go_wp2_with fail
    go_region
    go_wp2_with fail
    go_end0
    exact ⟨rfl, ⟨_, HW.out.1⟩, (HK1.out.below (below_drewN (Below.refl _ _) 1)).trans HW.out.2⟩
set_option maxHeartbeats 2000000 in
theorem lost_any (H : Hm w B b h s) (hi8 : i < 8) (ek eo en el : Int) (eb ei ec es er ew : Int) (ex : ByteArray) {et : List ByteArray} {q : Option Addr} {cq : Nat} :
    Calls Try.prog 37 #[.pointer (some ⟨b, 0, none⟩), .agg #[.int .i64 ek, .int .i64 eo, .int .i64 en, .int .i64 el, .int .i64 ((i : Int) + 1), .int .i64 eb, .int .i64 ei, .int .i64 ec, .int .i64 es, .int .i64 er, .int .u64 ew, .string ex, .slice q et.length cq]] w fun r w' => r = .returned (.tuple #[]) ∧ (∃ s', Hm w' B b (if hld h i eb = true then { h with jobs := h.jobs.set i { jat h i with st := 4 } } else h) s') ∧ Kt B w w' := by
  have hBa := below_alloc w (.cells #[.int .i64 ek, .int .i64 eo, .int .i64 en, .int .i64 el, .int .i64 ((i : Int) + 1), .int .i64 eb, .int .i64 ei, .int .i64 ec, .int .i64 es, .int .i64 er, .int .u64 ew, .string ex, .slice q et.length cq] 43)
  have hbk := heap_alloc_new w (.cells #[.int .i64 ek, .int .i64 eo, .int .i64 en, .int .i64 el, .int .i64 ((i : Int) + 1), .int .i64 eb, .int .i64 ei, .int .i64 ec, .int .i64 es, .int .i64 er, .int .u64 ew, .string ex, .slice q et.length cq] 43)
  have H1 := H.below hBa
  have H0 := hide H
  have HH1 := hide H1
  have HBa := hide hBa
  have HBK := hide hbk
  have l8 := H.l8
  have i8 : (i : Int) < 8 := by omega
  have HN := hide (held_any H1 i eb)
  clear H H1 hBa hbk
  cases hn : hld h i eb with
  | false =>
    rw [hn] at HN
    rw [if_neg (by decide)]
    clear hn
    go_enter Try.func37, Try.ntmps37
    go_wp2_with fail
    refine HN.out.mono ?_
    rintro e w1 ⟨rfl, hb⟩
    have HB1 := hide hb
    have H2 := HH1.out.below hb
    have HH2 := hide H2
    have HK1 := hide (Kt.of_below (B := B) (below_of HBa.out hb))
    have ce := (hb.block _ (lt_of_block HBK.out)).trans HBK.out
    clear hb H2 ce
    go_wp2_with fail
    go_end0
    exact ⟨rfl, ⟨_, HH2.out⟩, HK1.out⟩
  | true =>
    rw [hn] at HN
    rw [if_pos rfl]
    have hi := hld_lt hn
    have ii : (i : Int) < (h.jobs.length : Int) := by omega
    have HI := hide hi
    obtain ⟨ad, cap, hjv⟩ := H0.out.form
    obtain ⟨g, rfl⟩ := H0.out.grow hjv hi
    clear hn hi
    go_enter Try.func37, Try.ntmps37
    go_wp2_with fail
    refine HN.out.mono ?_
    rintro e w1 ⟨rfl, hb⟩
    have HB1 := hide hb
    have H2 := HH1.out.below hb
    have HH2 := hide H2
    have HK1 := hide (Kt.of_below (B := B) (below_of HBa.out hb))
    have ce := (hb.block _ (lt_of_block HBK.out)).trans HBK.out
    have x4 : w1.cell? ⟨w.heap.size, 4, none⟩ = some (.int .i64 ((i : Int) + 1)) := by simp [World.cell?, ce]
    have c0 := H2.c0 hjv
    obtain ⟨v0, _, k0, _⟩ := H2.at hjv HI.out
    have z0 := H2.z5 hjv (i * 5)
    have HW := hide ((H2.below (Below.refl w1.heap.size w1).drew).lay1 HI.out hjv (k := 0) (by decide) (.int .i64 4) { jat h i with st := 4 } (fun _ => rfl) rfl)
    clear hb H2 ce
    go_wp2_with fail
    go_region
    go_wp2_with fail
    go_end0
    exact ⟨rfl, ⟨_, HW.out.1⟩, (HK1.out.below (below_drewN (Below.refl _ _) 1)).trans HW.out.2⟩
end
end Go.Proofs.Ytjfgmdiafhkbgaa
