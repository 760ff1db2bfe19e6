import Derived.Test.YtjfgmdiafhkbgaaAuL
namespace Go.Proofs.Ytjfgmdiafhkbgaa
open Go.RowKit Go.MapKept
set_option maxRecDepth 8000

section
variable {w w' : World} {B b : Nat} {h : Hs} {s : Hi} {i : Nat}
set_option maxHeartbeats 400000 in
theorem granting_any (H : Hm w B b h s) (hi8 : i < 8) (ek eo en el : Int) (eb ei ec es er ew : Int) (ex : ByteArray) {et : List ByteArray} {q : Option Addr} {cq : Nat} :
    Calls Try.prog 32 #[.pointer (some ⟨b, 0, none⟩), .agg #[.int .i64 ek, .int .i64 eo, .int .i64 en, .int .i64 el, .int .i64 ((i : Int) + 1), .int .i64 eb, .int .i64 ei, .int .i64 ec, .int .i64 es, .int .i64 er, .int .u64 ew, .string ex, .slice q et.length cq]] w fun r w' => r = .returned (rul false false (decide (eb ≤ h.top)) (!isS h i 1) false false false false) ∧ Below w.heap.size w w' := by
  have HX := hide (Bx.start w #[.int .i64 ek, .int .i64 eo, .int .i64 en, .int .i64 el, .int .i64 ((i : Int) + 1), .int .i64 eb, .int .i64 ei, .int .i64 ec, .int .i64 es, .int .i64 er, .int .u64 ew, .string ex, .slice q et.length cq] #[.bool false, .bool false, .bool false, .bool false, .bool false, .bool false, .bool false, .bool false, .bool false])
  have H0 := hide H
  have l8 := H.l8
  have hbl : b < w.heap.size := H.lt
  have i8 : (i : Int) < 8 := by omega
  have hji : i64 ((i : Int) + 1) := i64_of (by omega)
  clear H
  have c1 := (H0.out.below HX.out.below).cell 1 (by decide)
  dsimp only [hc] at c1
  go_enter Try.func32, Try.ntmps32
  go_wp2_with fail
  go_region
  have HXd := hide ((Bx.start w #[.int .i64 ek, .int .i64 eo, .int .i64 en, .int .i64 el, .int .i64 ((i : Int) + 1), .int .i64 eb, .int .i64 ei, .int .i64 ec, .int .i64 es, .int .i64 er, .int .u64 ew, .string ex, .slice q et.length cq] #[.bool false, .bool false, .bool false, .bool (decide (eb ≤ h.top)), .bool false, .bool false, .bool false, .bool false, .bool false]).low (Below.refl _ _).drew)
  go_wp2_with fail
  refine (is_any (H0.out.below HXd.out.below) i 1).mono ?_
  rintro e w2 ⟨rfl, hb⟩
  have HX2 := hide (HXd.out.low hb)
  have x4 : w2.cell? ⟨w.heap.size, 4, none⟩ = some (.int .i64 ((i : Int) + 1)) := by simp [World.cell?, HX2.out.ev]
  have x5 : w2.cell? ⟨w.heap.size, 5, none⟩ = some (.int .i64 eb) := by simp [World.cell?, HX2.out.ev]
  have y0 : w2.cell? ⟨w.heap.size + 1, 0, none⟩ = some (.bool false) := by simp [World.cell?, HX2.out.ru]
  have y1 : w2.cell? ⟨w.heap.size + 1, 1, none⟩ = some (.bool false) := by simp [World.cell?, HX2.out.ru]
  have y2 : w2.cell? ⟨w.heap.size + 1, 2, none⟩ = some (.bool false) := by simp [World.cell?, HX2.out.ru]
  have y3 : w2.cell? ⟨w.heap.size + 1, 3, none⟩ = some (.bool (decide (eb ≤ h.top))) := by simp [World.cell?, HX2.out.ru]
  have y4 : w2.cell? ⟨w.heap.size + 1, 4, none⟩ = some (.bool false) := by simp [World.cell?, HX2.out.ru]
  have y5 : w2.cell? ⟨w.heap.size + 1, 5, none⟩ = some (.bool false) := by simp [World.cell?, HX2.out.ru]
  have y6 : w2.cell? ⟨w.heap.size + 1, 6, none⟩ = some (.bool false) := by simp [World.cell?, HX2.out.ru]
  have y7 : w2.cell? ⟨w.heap.size + 1, 7, none⟩ = some (.bool false) := by simp [World.cell?, HX2.out.ru]
  have y8 : w2.cell? ⟨w.heap.size + 1, 8, none⟩ = some (.bool false) := by simp [World.cell?, HX2.out.ru]
  have yz : ∀ k, w2.frozen? ⟨w.heap.size + 1, k, none⟩ = false := fun k => by simp [World.frozen?, HX2.out.ru]
  clear hb
  have HX3 := hide (HX2.out.set 4 (.bool (!isS h i 1)))
  go_upto_region 3 with (fail)
  obtain ⟨V, hV⟩ : ∃ V, w2.setCell ⟨w.heap.size + 1, 4, none⟩ (.bool (!isS h i 1)) = V := ⟨_, rfl⟩
  rw [hV] at HX3 ⊢
  clear hV
  clear y0 y1 y2 y3 y4 y5 y6 y7 y8 yz
  have y0 : V.cell? ⟨w.heap.size + 1, 0, none⟩ = some (.bool false) := by simp [World.cell?, HX3.out.ru]
  have y1 : V.cell? ⟨w.heap.size + 1, 1, none⟩ = some (.bool false) := by simp [World.cell?, HX3.out.ru]
  have y2 : V.cell? ⟨w.heap.size + 1, 2, none⟩ = some (.bool false) := by simp [World.cell?, HX3.out.ru]
  have y3 : V.cell? ⟨w.heap.size + 1, 3, none⟩ = some (.bool (decide (eb ≤ h.top))) := by simp [World.cell?, HX3.out.ru]
  have y4 : V.cell? ⟨w.heap.size + 1, 4, none⟩ = some (.bool (!isS h i 1)) := by simp [World.cell?, HX3.out.ru]
  have y5 : V.cell? ⟨w.heap.size + 1, 5, none⟩ = some (.bool false) := by simp [World.cell?, HX3.out.ru]
  have y6 : V.cell? ⟨w.heap.size + 1, 6, none⟩ = some (.bool false) := by simp [World.cell?, HX3.out.ru]
  have y7 : V.cell? ⟨w.heap.size + 1, 7, none⟩ = some (.bool false) := by simp [World.cell?, HX3.out.ru]
  have y8 : V.cell? ⟨w.heap.size + 1, 8, none⟩ = some (.bool false) := by simp [World.cell?, HX3.out.ru]
  have yz : ∀ k, V.frozen? ⟨w.heap.size + 1, k, none⟩ = false := fun k => by simp [World.frozen?, HX3.out.ru]
  have hru : V.heap[w.heap.size + 1]? = some (.cells #[.bool false, .bool false, .bool false, .bool (decide (eb ≤ h.top)), .bool (!isS h i 1), .bool false, .bool false, .bool false, .bool false] 60 (0, 0)) := by simpa using HX3.out.ru
  have HR9 := hide (put9 hru)
  have HB9 := hide (below9 (c0 := .bool false) (c1 := .bool false) (c2 := .bool false) (c3 := .bool (decide (eb ≤ h.top))) (c4 := .bool (!isS h i 1)) (c5 := .bool false) (c6 := .bool false) (c7 := .bool false) (c8 := .bool false) HX3.out.below (Nat.le_succ _))
  clear hru
  go_wp2_with fail
  refine bodyPost_ret (results_rul (fn := Try.f32) rfl _ _ (w.heap.size + 1) #[.bool false, .bool false, .bool false, .bool (decide (eb ≤ h.top)), .bool (!isS h i 1), .bool false, .bool false, .bool false, .bool false] rfl HR9.out rfl) rfl ?_
  exact ⟨rfl, HB9.out⟩
set_option maxHeartbeats 400000 in
theorem showing_any (H : Hm w B b h s) (hi8 : i < 8) (ek eo en el : Int) (eb ei ec es er ew : Int) (ex : ByteArray) {et : List ByteArray} {q : Option Addr} {cq : Nat} (hv : Tx w (.slice q et.length cq) et) (he : et.length ≤ 1048576) (hb64 : i64 eb) (hr64 : i64 er) (hw64 : u64 ew) (hup : 0 ≤ h.up ∧ h.up ≤ 8) (hlg : ∀ j ∈ h.jobs, j.lg.length ≤ 1099511627776) :
    Calls Try.prog 47 #[.pointer (some ⟨b, 0, none⟩), .agg #[.int .i64 ek, .int .i64 eo, .int .i64 en, .int .i64 el, .int .i64 ((i : Int) + 1), .int .i64 eb, .int .i64 ei, .int .i64 ec, .int .i64 es, .int .i64 er, .int .u64 ew, .string ex, .slice q et.length cq]] w fun r w' => r = .returned (rul false ((es == 3) && !isS h i 3 && !endW h i eb er ew) false false (!arC h et eb 0) ((es == 3) && !isS h i 3 && !endA h i eb et.length) false (!mbs h ⟨ek, eo, en, el, (i : Int) + 1, eb, ei, ec, es, er, ew, ex, et⟩ i)) ∧ Below w.heap.size w w' := by
  have HX := hide (Bx.start w #[.int .i64 ek, .int .i64 eo, .int .i64 en, .int .i64 el, .int .i64 ((i : Int) + 1), .int .i64 eb, .int .i64 ei, .int .i64 ec, .int .i64 es, .int .i64 er, .int .u64 ew, .string ex, .slice q et.length cq] #[.bool false, .bool false, .bool false, .bool false, .bool false, .bool false, .bool false, .bool false, .bool false])
  have H0 := hide H
  have l8 := H.l8
  have hbl : b < w.heap.size := H.lt
  have i8 : (i : Int) < 8 := by omega
  have hji : i64 ((i : Int) + 1) := i64_of (by omega)
  clear H
  have HMb : Hid (∀ W, Below w.heap.size w W → Calls Try.prog 69 #[.pointer (some ⟨b, 0, none⟩), .agg #[.int .i64 ek, .int .i64 eo, .int .i64 en, .int .i64 el, .int .i64 ((i : Int) + 1), .int .i64 eb, .int .i64 ei, .int .i64 ec, .int .i64 es, .int .i64 er, .int .u64 ew, .string ex, .slice q et.length cq]] W fun r w' => r = .returned (.bool (mbs h ⟨ek, eo, en, el, (i : Int) + 1, eb, ei, ec, es, er, ew, ex, et⟩ i)) ∧ Below W.heap.size W w') := hide fun W hb => mayBeShown_any (H0.out.below hb) hup hlg ek eo en el i eb ei ec es er ew ex (hv.below hb)
  have HAr : Hid (∀ W, Below w.heap.size w W → Calls Try.prog 64 #[.pointer (some ⟨b, 0, none⟩), .slice q et.length cq, .int .i64 eb, .int .i64 0] W fun r w' => r = .returned (.bool (arC h et eb 0)) ∧ Below W.heap.size W w') := hide fun W hb => areChunks_any (H0.out.below hb) (hv.below hb) (by omega) eb 0 hb64 ⟨by omega, by omega⟩
  have HEw : Hid (∀ W, Below w.heap.size w W → Calls Try.prog 65 #[.pointer (some ⟨b, 0, none⟩), nr i, .int .i64 eb, .agg #[.int .i64 er, .int .u64 ew]] W fun r w' => r = .returned (.bool (endW h i eb er ew)) ∧ Below W.heap.size W w') := hide fun W hb => endedWith_any (H0.out.below hb) i eb er ew hji hb64 hr64 hw64
  have HEa : Hid (∀ W, Below w.heap.size w W → Calls Try.prog 66 #[.pointer (some ⟨b, 0, none⟩), nr i, .int .i64 eb, .int .i64 (et.length : Int)] W fun r w' => r = .returned (.bool (endA h i eb et.length)) ∧ Below W.heap.size W w') := hide fun W hb => endedAt_any (H0.out.below hb) i eb et.length hji hb64 (i64_of (by omega))
  have HIs : Hid (∀ W, Below w.heap.size w W → Calls Try.prog 60 #[.pointer (some ⟨b, 0, none⟩), nr i, .int .i64 3] W fun r w' => r = .returned (.bool (isS h i 3)) ∧ Below W.heap.size W w') := hide fun W hb => is_any (H0.out.below hb) i 3
  clear hv hlg hup hb64 hr64 hw64
  generalize mbs h ⟨ek, eo, en, el, (i : Int) + 1, eb, ei, ec, es, er, ew, ex, et⟩ i = mb at *
  generalize arC h et eb 0 = ac at *
  generalize endW h i eb er ew = ew1 at *
  generalize endA h i eb et.length = ea1 at *
  generalize isS h i 3 = is3 at *
  cases h3 : (es == 3) with
  | false =>
    go_enter Try.func47, Try.ntmps47
    go_wp2_with fail
    refine (HMb.out _ HX.out.below).mono ?_
    rintro e w1 ⟨rfl, hb⟩
    have HX1 := hide (HX.out.low hb)
    have x0 : w1.cell? ⟨w.heap.size, 0, none⟩ = some (.int .i64 ek) := by simp [World.cell?, HX1.out.ev]
    have x1 : w1.cell? ⟨w.heap.size, 1, none⟩ = some (.int .i64 eo) := by simp [World.cell?, HX1.out.ev]
    have x2 : w1.cell? ⟨w.heap.size, 2, none⟩ = some (.int .i64 en) := by simp [World.cell?, HX1.out.ev]
    have x3 : w1.cell? ⟨w.heap.size, 3, none⟩ = some (.int .i64 el) := by simp [World.cell?, HX1.out.ev]
    have x4 : w1.cell? ⟨w.heap.size, 4, none⟩ = some (.int .i64 ((i : Int) + 1)) := by simp [World.cell?, HX1.out.ev]
    have x5 : w1.cell? ⟨w.heap.size, 5, none⟩ = some (.int .i64 eb) := by simp [World.cell?, HX1.out.ev]
    have x6 : w1.cell? ⟨w.heap.size, 6, none⟩ = some (.int .i64 ei) := by simp [World.cell?, HX1.out.ev]
    have x7 : w1.cell? ⟨w.heap.size, 7, none⟩ = some (.int .i64 ec) := by simp [World.cell?, HX1.out.ev]
    have x8 : w1.cell? ⟨w.heap.size, 8, none⟩ = some (.int .i64 es) := by simp [World.cell?, HX1.out.ev]
    have x9 : w1.cell? ⟨w.heap.size, 9, none⟩ = some (.int .i64 er) := by simp [World.cell?, HX1.out.ev]
    have x10 : w1.cell? ⟨w.heap.size, 10, none⟩ = some (.int .u64 ew) := by simp [World.cell?, HX1.out.ev]
    have x11 : w1.cell? ⟨w.heap.size, 11, none⟩ = some (.string ex) := by simp [World.cell?, HX1.out.ev]
    have x12 : w1.cell? ⟨w.heap.size, 12, none⟩ = some (.slice q et.length cq) := by simp [World.cell?, HX1.out.ev]
    have y0 : w1.cell? ⟨w.heap.size + 1, 0, none⟩ = some (.bool false) := by simp [World.cell?, HX1.out.ru]
    have y1 : w1.cell? ⟨w.heap.size + 1, 1, none⟩ = some (.bool false) := by simp [World.cell?, HX1.out.ru]
    have y2 : w1.cell? ⟨w.heap.size + 1, 2, none⟩ = some (.bool false) := by simp [World.cell?, HX1.out.ru]
    have y3 : w1.cell? ⟨w.heap.size + 1, 3, none⟩ = some (.bool false) := by simp [World.cell?, HX1.out.ru]
    have y4 : w1.cell? ⟨w.heap.size + 1, 4, none⟩ = some (.bool false) := by simp [World.cell?, HX1.out.ru]
    have y5 : w1.cell? ⟨w.heap.size + 1, 5, none⟩ = some (.bool false) := by simp [World.cell?, HX1.out.ru]
    have y6 : w1.cell? ⟨w.heap.size + 1, 6, none⟩ = some (.bool false) := by simp [World.cell?, HX1.out.ru]
    have y7 : w1.cell? ⟨w.heap.size + 1, 7, none⟩ = some (.bool false) := by simp [World.cell?, HX1.out.ru]
    have y8 : w1.cell? ⟨w.heap.size + 1, 8, none⟩ = some (.bool false) := by simp [World.cell?, HX1.out.ru]
    have yz : ∀ k, w1.frozen? ⟨w.heap.size + 1, k, none⟩ = false := fun k => by simp [World.frozen?, HX1.out.ru]
    clear hb
    have HX2 := hide (HX1.out.set 8 (.bool (!mb)))
    go_wp2_with fail
    refine (HAr.out _ HX2.out.below).mono ?_
    rintro e w3 ⟨rfl, hb⟩
    have HX3 := hide (HX2.out.low hb)
    have x0 : w3.cell? ⟨w.heap.size, 0, none⟩ = some (.int .i64 ek) := by simp [World.cell?, HX3.out.ev]
    have x1 : w3.cell? ⟨w.heap.size, 1, none⟩ = some (.int .i64 eo) := by simp [World.cell?, HX3.out.ev]
    have x2 : w3.cell? ⟨w.heap.size, 2, none⟩ = some (.int .i64 en) := by simp [World.cell?, HX3.out.ev]
    have x3 : w3.cell? ⟨w.heap.size, 3, none⟩ = some (.int .i64 el) := by simp [World.cell?, HX3.out.ev]
    have x4 : w3.cell? ⟨w.heap.size, 4, none⟩ = some (.int .i64 ((i : Int) + 1)) := by simp [World.cell?, HX3.out.ev]
    have x5 : w3.cell? ⟨w.heap.size, 5, none⟩ = some (.int .i64 eb) := by simp [World.cell?, HX3.out.ev]
    have x6 : w3.cell? ⟨w.heap.size, 6, none⟩ = some (.int .i64 ei) := by simp [World.cell?, HX3.out.ev]
    have x7 : w3.cell? ⟨w.heap.size, 7, none⟩ = some (.int .i64 ec) := by simp [World.cell?, HX3.out.ev]
    have x8 : w3.cell? ⟨w.heap.size, 8, none⟩ = some (.int .i64 es) := by simp [World.cell?, HX3.out.ev]
    have x9 : w3.cell? ⟨w.heap.size, 9, none⟩ = some (.int .i64 er) := by simp [World.cell?, HX3.out.ev]
    have x10 : w3.cell? ⟨w.heap.size, 10, none⟩ = some (.int .u64 ew) := by simp [World.cell?, HX3.out.ev]
    have x11 : w3.cell? ⟨w.heap.size, 11, none⟩ = some (.string ex) := by simp [World.cell?, HX3.out.ev]
    have x12 : w3.cell? ⟨w.heap.size, 12, none⟩ = some (.slice q et.length cq) := by simp [World.cell?, HX3.out.ev]
    have y0 : w3.cell? ⟨w.heap.size + 1, 0, none⟩ = some (.bool false) := by simp [World.cell?, HX3.out.ru]
    have y1 : w3.cell? ⟨w.heap.size + 1, 1, none⟩ = some (.bool false) := by simp [World.cell?, HX3.out.ru]
    have y2 : w3.cell? ⟨w.heap.size + 1, 2, none⟩ = some (.bool false) := by simp [World.cell?, HX3.out.ru]
    have y3 : w3.cell? ⟨w.heap.size + 1, 3, none⟩ = some (.bool false) := by simp [World.cell?, HX3.out.ru]
    have y4 : w3.cell? ⟨w.heap.size + 1, 4, none⟩ = some (.bool false) := by simp [World.cell?, HX3.out.ru]
    have y5 : w3.cell? ⟨w.heap.size + 1, 5, none⟩ = some (.bool false) := by simp [World.cell?, HX3.out.ru]
    have y6 : w3.cell? ⟨w.heap.size + 1, 6, none⟩ = some (.bool false) := by simp [World.cell?, HX3.out.ru]
    have y7 : w3.cell? ⟨w.heap.size + 1, 7, none⟩ = some (.bool false) := by simp [World.cell?, HX3.out.ru]
    have y8 : w3.cell? ⟨w.heap.size + 1, 8, none⟩ = some (.bool (!mb)) := by simp [World.cell?, HX3.out.ru]
    have yz : ∀ k, w3.frozen? ⟨w.heap.size + 1, k, none⟩ = false := fun k => by simp [World.frozen?, HX3.out.ru]
    clear hb
    have HX4 := hide (HX3.out.set 5 (.bool (!ac)))
    go_wp2_with fail
    have HX5 := hide (HX4.out.set 2 (.bool false))
    have HX6 := hide (HX5.out.set 6 (.bool false))
    go_upto_region 6 with (fail)
    obtain ⟨V, hV⟩ : ∃ V, (((w3.setCell ⟨w.heap.size + 1, 5, none⟩ (.bool (!ac))).setCell ⟨w.heap.size + 1, 2, none⟩ (.bool false)).setCell ⟨w.heap.size + 1, 6, none⟩ (.bool false)) = V := ⟨_, rfl⟩
    rw [hV] at HX6 ⊢
    clear hV
    clear y0 y1 y2 y3 y4 y5 y6 y7 y8 yz
    have y0 : V.cell? ⟨w.heap.size + 1, 0, none⟩ = some (.bool false) := by simp [World.cell?, HX6.out.ru]
    have y1 : V.cell? ⟨w.heap.size + 1, 1, none⟩ = some (.bool false) := by simp [World.cell?, HX6.out.ru]
    have y2 : V.cell? ⟨w.heap.size + 1, 2, none⟩ = some (.bool false) := by simp [World.cell?, HX6.out.ru]
    have y3 : V.cell? ⟨w.heap.size + 1, 3, none⟩ = some (.bool false) := by simp [World.cell?, HX6.out.ru]
    have y4 : V.cell? ⟨w.heap.size + 1, 4, none⟩ = some (.bool false) := by simp [World.cell?, HX6.out.ru]
    have y5 : V.cell? ⟨w.heap.size + 1, 5, none⟩ = some (.bool (!ac)) := by simp [World.cell?, HX6.out.ru]
    have y6 : V.cell? ⟨w.heap.size + 1, 6, none⟩ = some (.bool false) := by simp [World.cell?, HX6.out.ru]
    have y7 : V.cell? ⟨w.heap.size + 1, 7, none⟩ = some (.bool false) := by simp [World.cell?, HX6.out.ru]
    have y8 : V.cell? ⟨w.heap.size + 1, 8, none⟩ = some (.bool (!mb)) := by simp [World.cell?, HX6.out.ru]
    have yz : ∀ k, V.frozen? ⟨w.heap.size + 1, k, none⟩ = false := fun k => by simp [World.frozen?, HX6.out.ru]
    have hru : V.heap[w.heap.size + 1]? = some (.cells #[.bool false, .bool false, .bool false, .bool false, .bool false, .bool (!ac), .bool false, .bool false, .bool (!mb)] 60 (0, 0)) := by simpa using HX6.out.ru
    have HR9 := hide (put9 hru)
    have HB9 := hide (below9 (c0 := .bool false) (c1 := .bool false) (c2 := .bool false) (c3 := .bool false) (c4 := .bool false) (c5 := .bool (!ac)) (c6 := .bool false) (c7 := .bool false) (c8 := .bool (!mb)) HX6.out.below (Nat.le_succ _))
    clear hru
    go_wp2_with fail
    refine bodyPost_ret (results_rul (fn := Try.f47) rfl _ _ (w.heap.size + 1) #[.bool false, .bool false, .bool false, .bool false, .bool false, .bool (!ac), .bool false, .bool false, .bool (!mb)] rfl HR9.out rfl) rfl ?_
    exact ⟨rfl, HB9.out⟩
  | true =>
    cases is3 with
    | true =>
      go_enter Try.func47, Try.ntmps47
      go_wp2_with fail
      refine (HIs.out _ HX.out.below).mono ?_
      rintro e w1 ⟨rfl, hb⟩
      have HX1 := hide (HX.out.low hb)
      have x0 : w1.cell? ⟨w.heap.size, 0, none⟩ = some (.int .i64 ek) := by simp [World.cell?, HX1.out.ev]
      have x1 : w1.cell? ⟨w.heap.size, 1, none⟩ = some (.int .i64 eo) := by simp [World.cell?, HX1.out.ev]
      have x2 : w1.cell? ⟨w.heap.size, 2, none⟩ = some (.int .i64 en) := by simp [World.cell?, HX1.out.ev]
      have x3 : w1.cell? ⟨w.heap.size, 3, none⟩ = some (.int .i64 el) := by simp [World.cell?, HX1.out.ev]
      have x4 : w1.cell? ⟨w.heap.size, 4, none⟩ = some (.int .i64 ((i : Int) + 1)) := by simp [World.cell?, HX1.out.ev]
      have x5 : w1.cell? ⟨w.heap.size, 5, none⟩ = some (.int .i64 eb) := by simp [World.cell?, HX1.out.ev]
      have x6 : w1.cell? ⟨w.heap.size, 6, none⟩ = some (.int .i64 ei) := by simp [World.cell?, HX1.out.ev]
      have x7 : w1.cell? ⟨w.heap.size, 7, none⟩ = some (.int .i64 ec) := by simp [World.cell?, HX1.out.ev]
      have x8 : w1.cell? ⟨w.heap.size, 8, none⟩ = some (.int .i64 es) := by simp [World.cell?, HX1.out.ev]
      have x9 : w1.cell? ⟨w.heap.size, 9, none⟩ = some (.int .i64 er) := by simp [World.cell?, HX1.out.ev]
      have x10 : w1.cell? ⟨w.heap.size, 10, none⟩ = some (.int .u64 ew) := by simp [World.cell?, HX1.out.ev]
      have x11 : w1.cell? ⟨w.heap.size, 11, none⟩ = some (.string ex) := by simp [World.cell?, HX1.out.ev]
      have x12 : w1.cell? ⟨w.heap.size, 12, none⟩ = some (.slice q et.length cq) := by simp [World.cell?, HX1.out.ev]
      have y0 : w1.cell? ⟨w.heap.size + 1, 0, none⟩ = some (.bool false) := by simp [World.cell?, HX1.out.ru]
      have y1 : w1.cell? ⟨w.heap.size + 1, 1, none⟩ = some (.bool false) := by simp [World.cell?, HX1.out.ru]
      have y2 : w1.cell? ⟨w.heap.size + 1, 2, none⟩ = some (.bool false) := by simp [World.cell?, HX1.out.ru]
      have y3 : w1.cell? ⟨w.heap.size + 1, 3, none⟩ = some (.bool false) := by simp [World.cell?, HX1.out.ru]
      have y4 : w1.cell? ⟨w.heap.size + 1, 4, none⟩ = some (.bool false) := by simp [World.cell?, HX1.out.ru]
      have y5 : w1.cell? ⟨w.heap.size + 1, 5, none⟩ = some (.bool false) := by simp [World.cell?, HX1.out.ru]
      have y6 : w1.cell? ⟨w.heap.size + 1, 6, none⟩ = some (.bool false) := by simp [World.cell?, HX1.out.ru]
      have y7 : w1.cell? ⟨w.heap.size + 1, 7, none⟩ = some (.bool false) := by simp [World.cell?, HX1.out.ru]
      have y8 : w1.cell? ⟨w.heap.size + 1, 8, none⟩ = some (.bool false) := by simp [World.cell?, HX1.out.ru]
      have yz : ∀ k, w1.frozen? ⟨w.heap.size + 1, k, none⟩ = false := fun k => by simp [World.frozen?, HX1.out.ru]
      clear hb
      go_wp2_with fail
      refine (HMb.out _ HX1.out.below).mono ?_
      rintro e w2 ⟨rfl, hb⟩
      have HX2 := hide (HX1.out.low hb)
      have x0 : w2.cell? ⟨w.heap.size, 0, none⟩ = some (.int .i64 ek) := by simp [World.cell?, HX2.out.ev]
      have x1 : w2.cell? ⟨w.heap.size, 1, none⟩ = some (.int .i64 eo) := by simp [World.cell?, HX2.out.ev]
      have x2 : w2.cell? ⟨w.heap.size, 2, none⟩ = some (.int .i64 en) := by simp [World.cell?, HX2.out.ev]
      have x3 : w2.cell? ⟨w.heap.size, 3, none⟩ = some (.int .i64 el) := by simp [World.cell?, HX2.out.ev]
      have x4 : w2.cell? ⟨w.heap.size, 4, none⟩ = some (.int .i64 ((i : Int) + 1)) := by simp [World.cell?, HX2.out.ev]
      have x5 : w2.cell? ⟨w.heap.size, 5, none⟩ = some (.int .i64 eb) := by simp [World.cell?, HX2.out.ev]
      have x6 : w2.cell? ⟨w.heap.size, 6, none⟩ = some (.int .i64 ei) := by simp [World.cell?, HX2.out.ev]
      have x7 : w2.cell? ⟨w.heap.size, 7, none⟩ = some (.int .i64 ec) := by simp [World.cell?, HX2.out.ev]
      have x8 : w2.cell? ⟨w.heap.size, 8, none⟩ = some (.int .i64 es) := by simp [World.cell?, HX2.out.ev]
      have x9 : w2.cell? ⟨w.heap.size, 9, none⟩ = some (.int .i64 er) := by simp [World.cell?, HX2.out.ev]
      have x10 : w2.cell? ⟨w.heap.size, 10, none⟩ = some (.int .u64 ew) := by simp [World.cell?, HX2.out.ev]
      have x11 : w2.cell? ⟨w.heap.size, 11, none⟩ = some (.string ex) := by simp [World.cell?, HX2.out.ev]
      have x12 : w2.cell? ⟨w.heap.size, 12, none⟩ = some (.slice q et.length cq) := by simp [World.cell?, HX2.out.ev]
      have y0 : w2.cell? ⟨w.heap.size + 1, 0, none⟩ = some (.bool false) := by simp [World.cell?, HX2.out.ru]
      have y1 : w2.cell? ⟨w.heap.size + 1, 1, none⟩ = some (.bool false) := by simp [World.cell?, HX2.out.ru]
      have y2 : w2.cell? ⟨w.heap.size + 1, 2, none⟩ = some (.bool false) := by simp [World.cell?, HX2.out.ru]
      have y3 : w2.cell? ⟨w.heap.size + 1, 3, none⟩ = some (.bool false) := by simp [World.cell?, HX2.out.ru]
      have y4 : w2.cell? ⟨w.heap.size + 1, 4, none⟩ = some (.bool false) := by simp [World.cell?, HX2.out.ru]
      have y5 : w2.cell? ⟨w.heap.size + 1, 5, none⟩ = some (.bool false) := by simp [World.cell?, HX2.out.ru]
      have y6 : w2.cell? ⟨w.heap.size + 1, 6, none⟩ = some (.bool false) := by simp [World.cell?, HX2.out.ru]
      have y7 : w2.cell? ⟨w.heap.size + 1, 7, none⟩ = some (.bool false) := by simp [World.cell?, HX2.out.ru]
      have y8 : w2.cell? ⟨w.heap.size + 1, 8, none⟩ = some (.bool false) := by simp [World.cell?, HX2.out.ru]
      have yz : ∀ k, w2.frozen? ⟨w.heap.size + 1, k, none⟩ = false := fun k => by simp [World.frozen?, HX2.out.ru]
      clear hb
      have HX3 := hide (HX2.out.set 8 (.bool (!mb)))
      go_wp2_with fail
      refine (HAr.out _ HX3.out.below).mono ?_
      rintro e w4 ⟨rfl, hb⟩
      have HX4 := hide (HX3.out.low hb)
      have x0 : w4.cell? ⟨w.heap.size, 0, none⟩ = some (.int .i64 ek) := by simp [World.cell?, HX4.out.ev]
      have x1 : w4.cell? ⟨w.heap.size, 1, none⟩ = some (.int .i64 eo) := by simp [World.cell?, HX4.out.ev]
      have x2 : w4.cell? ⟨w.heap.size, 2, none⟩ = some (.int .i64 en) := by simp [World.cell?, HX4.out.ev]
      have x3 : w4.cell? ⟨w.heap.size, 3, none⟩ = some (.int .i64 el) := by simp [World.cell?, HX4.out.ev]
      have x4 : w4.cell? ⟨w.heap.size, 4, none⟩ = some (.int .i64 ((i : Int) + 1)) := by simp [World.cell?, HX4.out.ev]
      have x5 : w4.cell? ⟨w.heap.size, 5, none⟩ = some (.int .i64 eb) := by simp [World.cell?, HX4.out.ev]
      have x6 : w4.cell? ⟨w.heap.size, 6, none⟩ = some (.int .i64 ei) := by simp [World.cell?, HX4.out.ev]
      have x7 : w4.cell? ⟨w.heap.size, 7, none⟩ = some (.int .i64 ec) := by simp [World.cell?, HX4.out.ev]
      have x8 : w4.cell? ⟨w.heap.size, 8, none⟩ = some (.int .i64 es) := by simp [World.cell?, HX4.out.ev]
      have x9 : w4.cell? ⟨w.heap.size, 9, none⟩ = some (.int .i64 er) := by simp [World.cell?, HX4.out.ev]
      have x10 : w4.cell? ⟨w.heap.size, 10, none⟩ = some (.int .u64 ew) := by simp [World.cell?, HX4.out.ev]
      have x11 : w4.cell? ⟨w.heap.size, 11, none⟩ = some (.string ex) := by simp [World.cell?, HX4.out.ev]
      have x12 : w4.cell? ⟨w.heap.size, 12, none⟩ = some (.slice q et.length cq) := by simp [World.cell?, HX4.out.ev]
      have y0 : w4.cell? ⟨w.heap.size + 1, 0, none⟩ = some (.bool false) := by simp [World.cell?, HX4.out.ru]
      have y1 : w4.cell? ⟨w.heap.size + 1, 1, none⟩ = some (.bool false) := by simp [World.cell?, HX4.out.ru]
      have y2 : w4.cell? ⟨w.heap.size + 1, 2, none⟩ = some (.bool false) := by simp [World.cell?, HX4.out.ru]
      have y3 : w4.cell? ⟨w.heap.size + 1, 3, none⟩ = some (.bool false) := by simp [World.cell?, HX4.out.ru]
      have y4 : w4.cell? ⟨w.heap.size + 1, 4, none⟩ = some (.bool false) := by simp [World.cell?, HX4.out.ru]
      have y5 : w4.cell? ⟨w.heap.size + 1, 5, none⟩ = some (.bool false) := by simp [World.cell?, HX4.out.ru]
      have y6 : w4.cell? ⟨w.heap.size + 1, 6, none⟩ = some (.bool false) := by simp [World.cell?, HX4.out.ru]
      have y7 : w4.cell? ⟨w.heap.size + 1, 7, none⟩ = some (.bool false) := by simp [World.cell?, HX4.out.ru]
      have y8 : w4.cell? ⟨w.heap.size + 1, 8, none⟩ = some (.bool (!mb)) := by simp [World.cell?, HX4.out.ru]
      have yz : ∀ k, w4.frozen? ⟨w.heap.size + 1, k, none⟩ = false := fun k => by simp [World.frozen?, HX4.out.ru]
      clear hb
      have HX5 := hide (HX4.out.set 5 (.bool (!ac)))
      go_wp2_with fail
      have HX6 := hide (HX5.out.set 2 (.bool false))
      have HX7 := hide (HX6.out.set 6 (.bool false))
      go_upto_region 6 with (fail)
      obtain ⟨V, hV⟩ : ∃ V, (((w4.setCell ⟨w.heap.size + 1, 5, none⟩ (.bool (!ac))).setCell ⟨w.heap.size + 1, 2, none⟩ (.bool false)).setCell ⟨w.heap.size + 1, 6, none⟩ (.bool false)) = V := ⟨_, rfl⟩
      rw [hV] at HX7 ⊢
      clear hV
      clear y0 y1 y2 y3 y4 y5 y6 y7 y8 yz
      have y0 : V.cell? ⟨w.heap.size + 1, 0, none⟩ = some (.bool false) := by simp [World.cell?, HX7.out.ru]
      have y1 : V.cell? ⟨w.heap.size + 1, 1, none⟩ = some (.bool false) := by simp [World.cell?, HX7.out.ru]
      have y2 : V.cell? ⟨w.heap.size + 1, 2, none⟩ = some (.bool false) := by simp [World.cell?, HX7.out.ru]
      have y3 : V.cell? ⟨w.heap.size + 1, 3, none⟩ = some (.bool false) := by simp [World.cell?, HX7.out.ru]
      have y4 : V.cell? ⟨w.heap.size + 1, 4, none⟩ = some (.bool false) := by simp [World.cell?, HX7.out.ru]
      have y5 : V.cell? ⟨w.heap.size + 1, 5, none⟩ = some (.bool (!ac)) := by simp [World.cell?, HX7.out.ru]
      have y6 : V.cell? ⟨w.heap.size + 1, 6, none⟩ = some (.bool false) := by simp [World.cell?, HX7.out.ru]
      have y7 : V.cell? ⟨w.heap.size + 1, 7, none⟩ = some (.bool false) := by simp [World.cell?, HX7.out.ru]
      have y8 : V.cell? ⟨w.heap.size + 1, 8, none⟩ = some (.bool (!mb)) := by simp [World.cell?, HX7.out.ru]
      have yz : ∀ k, V.frozen? ⟨w.heap.size + 1, k, none⟩ = false := fun k => by simp [World.frozen?, HX7.out.ru]
      have hru : V.heap[w.heap.size + 1]? = some (.cells #[.bool false, .bool false, .bool false, .bool false, .bool false, .bool (!ac), .bool false, .bool false, .bool (!mb)] 60 (0, 0)) := by simpa using HX7.out.ru
      have HR9 := hide (put9 hru)
      have HB9 := hide (below9 (c0 := .bool false) (c1 := .bool false) (c2 := .bool false) (c3 := .bool false) (c4 := .bool false) (c5 := .bool (!ac)) (c6 := .bool false) (c7 := .bool false) (c8 := .bool (!mb)) HX7.out.below (Nat.le_succ _))
      clear hru
      go_wp2_with fail
      refine bodyPost_ret (results_rul (fn := Try.f47) rfl _ _ (w.heap.size + 1) #[.bool false, .bool false, .bool false, .bool false, .bool false, .bool (!ac), .bool false, .bool false, .bool (!mb)] rfl HR9.out rfl) rfl ?_
      exact ⟨rfl, HB9.out⟩
    | false =>
      go_enter Try.func47, Try.ntmps47
      go_wp2_with fail
      refine (HIs.out _ HX.out.below).mono ?_
      rintro e w1 ⟨rfl, hb⟩
      have HX1 := hide (HX.out.low hb)
      have x0 : w1.cell? ⟨w.heap.size, 0, none⟩ = some (.int .i64 ek) := by simp [World.cell?, HX1.out.ev]
      have x1 : w1.cell? ⟨w.heap.size, 1, none⟩ = some (.int .i64 eo) := by simp [World.cell?, HX1.out.ev]
      have x2 : w1.cell? ⟨w.heap.size, 2, none⟩ = some (.int .i64 en) := by simp [World.cell?, HX1.out.ev]
      have x3 : w1.cell? ⟨w.heap.size, 3, none⟩ = some (.int .i64 el) := by simp [World.cell?, HX1.out.ev]
      have x4 : w1.cell? ⟨w.heap.size, 4, none⟩ = some (.int .i64 ((i : Int) + 1)) := by simp [World.cell?, HX1.out.ev]
      have x5 : w1.cell? ⟨w.heap.size, 5, none⟩ = some (.int .i64 eb) := by simp [World.cell?, HX1.out.ev]
      have x6 : w1.cell? ⟨w.heap.size, 6, none⟩ = some (.int .i64 ei) := by simp [World.cell?, HX1.out.ev]
      have x7 : w1.cell? ⟨w.heap.size, 7, none⟩ = some (.int .i64 ec) := by simp [World.cell?, HX1.out.ev]
      have x8 : w1.cell? ⟨w.heap.size, 8, none⟩ = some (.int .i64 es) := by simp [World.cell?, HX1.out.ev]
      have x9 : w1.cell? ⟨w.heap.size, 9, none⟩ = some (.int .i64 er) := by simp [World.cell?, HX1.out.ev]
      have x10 : w1.cell? ⟨w.heap.size, 10, none⟩ = some (.int .u64 ew) := by simp [World.cell?, HX1.out.ev]
      have x11 : w1.cell? ⟨w.heap.size, 11, none⟩ = some (.string ex) := by simp [World.cell?, HX1.out.ev]
      have x12 : w1.cell? ⟨w.heap.size, 12, none⟩ = some (.slice q et.length cq) := by simp [World.cell?, HX1.out.ev]
      have y0 : w1.cell? ⟨w.heap.size + 1, 0, none⟩ = some (.bool false) := by simp [World.cell?, HX1.out.ru]
      have y1 : w1.cell? ⟨w.heap.size + 1, 1, none⟩ = some (.bool false) := by simp [World.cell?, HX1.out.ru]
      have y2 : w1.cell? ⟨w.heap.size + 1, 2, none⟩ = some (.bool false) := by simp [World.cell?, HX1.out.ru]
      have y3 : w1.cell? ⟨w.heap.size + 1, 3, none⟩ = some (.bool false) := by simp [World.cell?, HX1.out.ru]
      have y4 : w1.cell? ⟨w.heap.size + 1, 4, none⟩ = some (.bool false) := by simp [World.cell?, HX1.out.ru]
      have y5 : w1.cell? ⟨w.heap.size + 1, 5, none⟩ = some (.bool false) := by simp [World.cell?, HX1.out.ru]
      have y6 : w1.cell? ⟨w.heap.size + 1, 6, none⟩ = some (.bool false) := by simp [World.cell?, HX1.out.ru]
      have y7 : w1.cell? ⟨w.heap.size + 1, 7, none⟩ = some (.bool false) := by simp [World.cell?, HX1.out.ru]
      have y8 : w1.cell? ⟨w.heap.size + 1, 8, none⟩ = some (.bool false) := by simp [World.cell?, HX1.out.ru]
      have yz : ∀ k, w1.frozen? ⟨w.heap.size + 1, k, none⟩ = false := fun k => by simp [World.frozen?, HX1.out.ru]
      clear hb
      go_wp2_with fail
      refine (HMb.out _ HX1.out.below).mono ?_
      rintro e w2 ⟨rfl, hb⟩
      have HX2 := hide (HX1.out.low hb)
      have x0 : w2.cell? ⟨w.heap.size, 0, none⟩ = some (.int .i64 ek) := by simp [World.cell?, HX2.out.ev]
      have x1 : w2.cell? ⟨w.heap.size, 1, none⟩ = some (.int .i64 eo) := by simp [World.cell?, HX2.out.ev]
      have x2 : w2.cell? ⟨w.heap.size, 2, none⟩ = some (.int .i64 en) := by simp [World.cell?, HX2.out.ev]
      have x3 : w2.cell? ⟨w.heap.size, 3, none⟩ = some (.int .i64 el) := by simp [World.cell?, HX2.out.ev]
      have x4 : w2.cell? ⟨w.heap.size, 4, none⟩ = some (.int .i64 ((i : Int) + 1)) := by simp [World.cell?, HX2.out.ev]
      have x5 : w2.cell? ⟨w.heap.size, 5, none⟩ = some (.int .i64 eb) := by simp [World.cell?, HX2.out.ev]
      have x6 : w2.cell? ⟨w.heap.size, 6, none⟩ = some (.int .i64 ei) := by simp [World.cell?, HX2.out.ev]
      have x7 : w2.cell? ⟨w.heap.size, 7, none⟩ = some (.int .i64 ec) := by simp [World.cell?, HX2.out.ev]
      have x8 : w2.cell? ⟨w.heap.size, 8, none⟩ = some (.int .i64 es) := by simp [World.cell?, HX2.out.ev]
      have x9 : w2.cell? ⟨w.heap.size, 9, none⟩ = some (.int .i64 er) := by simp [World.cell?, HX2.out.ev]
      have x10 : w2.cell? ⟨w.heap.size, 10, none⟩ = some (.int .u64 ew) := by simp [World.cell?, HX2.out.ev]
      have x11 : w2.cell? ⟨w.heap.size, 11, none⟩ = some (.string ex) := by simp [World.cell?, HX2.out.ev]
      have x12 : w2.cell? ⟨w.heap.size, 12, none⟩ = some (.slice q et.length cq) := by simp [World.cell?, HX2.out.ev]
      have y0 : w2.cell? ⟨w.heap.size + 1, 0, none⟩ = some (.bool false) := by simp [World.cell?, HX2.out.ru]
      have y1 : w2.cell? ⟨w.heap.size + 1, 1, none⟩ = some (.bool false) := by simp [World.cell?, HX2.out.ru]
      have y2 : w2.cell? ⟨w.heap.size + 1, 2, none⟩ = some (.bool false) := by simp [World.cell?, HX2.out.ru]
      have y3 : w2.cell? ⟨w.heap.size + 1, 3, none⟩ = some (.bool false) := by simp [World.cell?, HX2.out.ru]
      have y4 : w2.cell? ⟨w.heap.size + 1, 4, none⟩ = some (.bool false) := by simp [World.cell?, HX2.out.ru]
      have y5 : w2.cell? ⟨w.heap.size + 1, 5, none⟩ = some (.bool false) := by simp [World.cell?, HX2.out.ru]
      have y6 : w2.cell? ⟨w.heap.size + 1, 6, none⟩ = some (.bool false) := by simp [World.cell?, HX2.out.ru]
      have y7 : w2.cell? ⟨w.heap.size + 1, 7, none⟩ = some (.bool false) := by simp [World.cell?, HX2.out.ru]
      have y8 : w2.cell? ⟨w.heap.size + 1, 8, none⟩ = some (.bool false) := by simp [World.cell?, HX2.out.ru]
      have yz : ∀ k, w2.frozen? ⟨w.heap.size + 1, k, none⟩ = false := fun k => by simp [World.frozen?, HX2.out.ru]
      clear hb
      have HX3 := hide (HX2.out.set 8 (.bool (!mb)))
      go_wp2_with fail
      refine (HAr.out _ HX3.out.below).mono ?_
      rintro e w4 ⟨rfl, hb⟩
      have HX4 := hide (HX3.out.low hb)
      have x0 : w4.cell? ⟨w.heap.size, 0, none⟩ = some (.int .i64 ek) := by simp [World.cell?, HX4.out.ev]
      have x1 : w4.cell? ⟨w.heap.size, 1, none⟩ = some (.int .i64 eo) := by simp [World.cell?, HX4.out.ev]
      have x2 : w4.cell? ⟨w.heap.size, 2, none⟩ = some (.int .i64 en) := by simp [World.cell?, HX4.out.ev]
      have x3 : w4.cell? ⟨w.heap.size, 3, none⟩ = some (.int .i64 el) := by simp [World.cell?, HX4.out.ev]
      have x4 : w4.cell? ⟨w.heap.size, 4, none⟩ = some (.int .i64 ((i : Int) + 1)) := by simp [World.cell?, HX4.out.ev]
      have x5 : w4.cell? ⟨w.heap.size, 5, none⟩ = some (.int .i64 eb) := by simp [World.cell?, HX4.out.ev]
      have x6 : w4.cell? ⟨w.heap.size, 6, none⟩ = some (.int .i64 ei) := by simp [World.cell?, HX4.out.ev]
      have x7 : w4.cell? ⟨w.heap.size, 7, none⟩ = some (.int .i64 ec) := by simp [World.cell?, HX4.out.ev]
      have x8 : w4.cell? ⟨w.heap.size, 8, none⟩ = some (.int .i64 es) := by simp [World.cell?, HX4.out.ev]
      have x9 : w4.cell? ⟨w.heap.size, 9, none⟩ = some (.int .i64 er) := by simp [World.cell?, HX4.out.ev]
      have x10 : w4.cell? ⟨w.heap.size, 10, none⟩ = some (.int .u64 ew) := by simp [World.cell?, HX4.out.ev]
      have x11 : w4.cell? ⟨w.heap.size, 11, none⟩ = some (.string ex) := by simp [World.cell?, HX4.out.ev]
      have x12 : w4.cell? ⟨w.heap.size, 12, none⟩ = some (.slice q et.length cq) := by simp [World.cell?, HX4.out.ev]
      have y0 : w4.cell? ⟨w.heap.size + 1, 0, none⟩ = some (.bool false) := by simp [World.cell?, HX4.out.ru]
      have y1 : w4.cell? ⟨w.heap.size + 1, 1, none⟩ = some (.bool false) := by simp [World.cell?, HX4.out.ru]
      have y2 : w4.cell? ⟨w.heap.size + 1, 2, none⟩ = some (.bool false) := by simp [World.cell?, HX4.out.ru]
      have y3 : w4.cell? ⟨w.heap.size + 1, 3, none⟩ = some (.bool false) := by simp [World.cell?, HX4.out.ru]
      have y4 : w4.cell? ⟨w.heap.size + 1, 4, none⟩ = some (.bool false) := by simp [World.cell?, HX4.out.ru]
      have y5 : w4.cell? ⟨w.heap.size + 1, 5, none⟩ = some (.bool false) := by simp [World.cell?, HX4.out.ru]
      have y6 : w4.cell? ⟨w.heap.size + 1, 6, none⟩ = some (.bool false) := by simp [World.cell?, HX4.out.ru]
      have y7 : w4.cell? ⟨w.heap.size + 1, 7, none⟩ = some (.bool false) := by simp [World.cell?, HX4.out.ru]
      have y8 : w4.cell? ⟨w.heap.size + 1, 8, none⟩ = some (.bool (!mb)) := by simp [World.cell?, HX4.out.ru]
      have yz : ∀ k, w4.frozen? ⟨w.heap.size + 1, k, none⟩ = false := fun k => by simp [World.frozen?, HX4.out.ru]
      clear hb
      have HX5 := hide (HX4.out.set 5 (.bool (!ac)))
      go_wp2_with fail
      refine (HEw.out _ HX5.out.below).mono ?_
      rintro e w6 ⟨rfl, hb⟩
      have HX6 := hide (HX5.out.low hb)
      have x0 : w6.cell? ⟨w.heap.size, 0, none⟩ = some (.int .i64 ek) := by simp [World.cell?, HX6.out.ev]
      have x1 : w6.cell? ⟨w.heap.size, 1, none⟩ = some (.int .i64 eo) := by simp [World.cell?, HX6.out.ev]
      have x2 : w6.cell? ⟨w.heap.size, 2, none⟩ = some (.int .i64 en) := by simp [World.cell?, HX6.out.ev]
      have x3 : w6.cell? ⟨w.heap.size, 3, none⟩ = some (.int .i64 el) := by simp [World.cell?, HX6.out.ev]
      have x4 : w6.cell? ⟨w.heap.size, 4, none⟩ = some (.int .i64 ((i : Int) + 1)) := by simp [World.cell?, HX6.out.ev]
      have x5 : w6.cell? ⟨w.heap.size, 5, none⟩ = some (.int .i64 eb) := by simp [World.cell?, HX6.out.ev]
      have x6 : w6.cell? ⟨w.heap.size, 6, none⟩ = some (.int .i64 ei) := by simp [World.cell?, HX6.out.ev]
      have x7 : w6.cell? ⟨w.heap.size, 7, none⟩ = some (.int .i64 ec) := by simp [World.cell?, HX6.out.ev]
      have x8 : w6.cell? ⟨w.heap.size, 8, none⟩ = some (.int .i64 es) := by simp [World.cell?, HX6.out.ev]
      have x9 : w6.cell? ⟨w.heap.size, 9, none⟩ = some (.int .i64 er) := by simp [World.cell?, HX6.out.ev]
      have x10 : w6.cell? ⟨w.heap.size, 10, none⟩ = some (.int .u64 ew) := by simp [World.cell?, HX6.out.ev]
      have x11 : w6.cell? ⟨w.heap.size, 11, none⟩ = some (.string ex) := by simp [World.cell?, HX6.out.ev]
      have x12 : w6.cell? ⟨w.heap.size, 12, none⟩ = some (.slice q et.length cq) := by simp [World.cell?, HX6.out.ev]
      have y0 : w6.cell? ⟨w.heap.size + 1, 0, none⟩ = some (.bool false) := by simp [World.cell?, HX6.out.ru]
      have y1 : w6.cell? ⟨w.heap.size + 1, 1, none⟩ = some (.bool false) := by simp [World.cell?, HX6.out.ru]
      have y2 : w6.cell? ⟨w.heap.size + 1, 2, none⟩ = some (.bool false) := by simp [World.cell?, HX6.out.ru]
      have y3 : w6.cell? ⟨w.heap.size + 1, 3, none⟩ = some (.bool false) := by simp [World.cell?, HX6.out.ru]
      have y4 : w6.cell? ⟨w.heap.size + 1, 4, none⟩ = some (.bool false) := by simp [World.cell?, HX6.out.ru]
      have y5 : w6.cell? ⟨w.heap.size + 1, 5, none⟩ = some (.bool (!ac)) := by simp [World.cell?, HX6.out.ru]
      have y6 : w6.cell? ⟨w.heap.size + 1, 6, none⟩ = some (.bool false) := by simp [World.cell?, HX6.out.ru]
      have y7 : w6.cell? ⟨w.heap.size + 1, 7, none⟩ = some (.bool false) := by simp [World.cell?, HX6.out.ru]
      have y8 : w6.cell? ⟨w.heap.size + 1, 8, none⟩ = some (.bool (!mb)) := by simp [World.cell?, HX6.out.ru]
      have yz : ∀ k, w6.frozen? ⟨w.heap.size + 1, k, none⟩ = false := fun k => by simp [World.frozen?, HX6.out.ru]
      clear hb
      have HX7 := hide (HX6.out.set 2 (.bool (!ew1)))
      go_wp2_with fail
      refine (HEa.out _ HX7.out.below).mono ?_
      rintro e w8 ⟨rfl, hb⟩
      have HX8 := hide (HX7.out.low hb)
      have x0 : w8.cell? ⟨w.heap.size, 0, none⟩ = some (.int .i64 ek) := by simp [World.cell?, HX8.out.ev]
      have x1 : w8.cell? ⟨w.heap.size, 1, none⟩ = some (.int .i64 eo) := by simp [World.cell?, HX8.out.ev]
      have x2 : w8.cell? ⟨w.heap.size, 2, none⟩ = some (.int .i64 en) := by simp [World.cell?, HX8.out.ev]
      have x3 : w8.cell? ⟨w.heap.size, 3, none⟩ = some (.int .i64 el) := by simp [World.cell?, HX8.out.ev]
      have x4 : w8.cell? ⟨w.heap.size, 4, none⟩ = some (.int .i64 ((i : Int) + 1)) := by simp [World.cell?, HX8.out.ev]
      have x5 : w8.cell? ⟨w.heap.size, 5, none⟩ = some (.int .i64 eb) := by simp [World.cell?, HX8.out.ev]
      have x6 : w8.cell? ⟨w.heap.size, 6, none⟩ = some (.int .i64 ei) := by simp [World.cell?, HX8.out.ev]
      have x7 : w8.cell? ⟨w.heap.size, 7, none⟩ = some (.int .i64 ec) := by simp [World.cell?, HX8.out.ev]
      have x8 : w8.cell? ⟨w.heap.size, 8, none⟩ = some (.int .i64 es) := by simp [World.cell?, HX8.out.ev]
      have x9 : w8.cell? ⟨w.heap.size, 9, none⟩ = some (.int .i64 er) := by simp [World.cell?, HX8.out.ev]
      have x10 : w8.cell? ⟨w.heap.size, 10, none⟩ = some (.int .u64 ew) := by simp [World.cell?, HX8.out.ev]
      have x11 : w8.cell? ⟨w.heap.size, 11, none⟩ = some (.string ex) := by simp [World.cell?, HX8.out.ev]
      have x12 : w8.cell? ⟨w.heap.size, 12, none⟩ = some (.slice q et.length cq) := by simp [World.cell?, HX8.out.ev]
      have y0 : w8.cell? ⟨w.heap.size + 1, 0, none⟩ = some (.bool false) := by simp [World.cell?, HX8.out.ru]
      have y1 : w8.cell? ⟨w.heap.size + 1, 1, none⟩ = some (.bool false) := by simp [World.cell?, HX8.out.ru]
      have y2 : w8.cell? ⟨w.heap.size + 1, 2, none⟩ = some (.bool (!ew1)) := by simp [World.cell?, HX8.out.ru]
      have y3 : w8.cell? ⟨w.heap.size + 1, 3, none⟩ = some (.bool false) := by simp [World.cell?, HX8.out.ru]
      have y4 : w8.cell? ⟨w.heap.size + 1, 4, none⟩ = some (.bool false) := by simp [World.cell?, HX8.out.ru]
      have y5 : w8.cell? ⟨w.heap.size + 1, 5, none⟩ = some (.bool (!ac)) := by simp [World.cell?, HX8.out.ru]
      have y6 : w8.cell? ⟨w.heap.size + 1, 6, none⟩ = some (.bool false) := by simp [World.cell?, HX8.out.ru]
      have y7 : w8.cell? ⟨w.heap.size + 1, 7, none⟩ = some (.bool false) := by simp [World.cell?, HX8.out.ru]
      have y8 : w8.cell? ⟨w.heap.size + 1, 8, none⟩ = some (.bool (!mb)) := by simp [World.cell?, HX8.out.ru]
      have yz : ∀ k, w8.frozen? ⟨w.heap.size + 1, k, none⟩ = false := fun k => by simp [World.frozen?, HX8.out.ru]
      clear hb
      have HX9 := hide (HX8.out.set 6 (.bool (!ea1)))
      go_upto_region 6 with (fail)
      obtain ⟨V, hV⟩ : ∃ V, w8.setCell ⟨w.heap.size + 1, 6, none⟩ (.bool (!ea1)) = V := ⟨_, rfl⟩
      rw [hV] at HX9 ⊢
      clear hV
      clear y0 y1 y2 y3 y4 y5 y6 y7 y8 yz
      have y0 : V.cell? ⟨w.heap.size + 1, 0, none⟩ = some (.bool false) := by simp [World.cell?, HX9.out.ru]
      have y1 : V.cell? ⟨w.heap.size + 1, 1, none⟩ = some (.bool false) := by simp [World.cell?, HX9.out.ru]
      have y2 : V.cell? ⟨w.heap.size + 1, 2, none⟩ = some (.bool (!ew1)) := by simp [World.cell?, HX9.out.ru]
      have y3 : V.cell? ⟨w.heap.size + 1, 3, none⟩ = some (.bool false) := by simp [World.cell?, HX9.out.ru]
      have y4 : V.cell? ⟨w.heap.size + 1, 4, none⟩ = some (.bool false) := by simp [World.cell?, HX9.out.ru]
      have y5 : V.cell? ⟨w.heap.size + 1, 5, none⟩ = some (.bool (!ac)) := by simp [World.cell?, HX9.out.ru]
      have y6 : V.cell? ⟨w.heap.size + 1, 6, none⟩ = some (.bool (!ea1)) := by simp [World.cell?, HX9.out.ru]
      have y7 : V.cell? ⟨w.heap.size + 1, 7, none⟩ = some (.bool false) := by simp [World.cell?, HX9.out.ru]
      have y8 : V.cell? ⟨w.heap.size + 1, 8, none⟩ = some (.bool (!mb)) := by simp [World.cell?, HX9.out.ru]
      have yz : ∀ k, V.frozen? ⟨w.heap.size + 1, k, none⟩ = false := fun k => by simp [World.frozen?, HX9.out.ru]
      have hru : V.heap[w.heap.size + 1]? = some (.cells #[.bool false, .bool false, .bool (!ew1), .bool false, .bool false, .bool (!ac), .bool (!ea1), .bool false, .bool (!mb)] 60 (0, 0)) := by simpa using HX9.out.ru
      have HR9 := hide (put9 hru)
      have HB9 := hide (below9 (c0 := .bool false) (c1 := .bool false) (c2 := .bool (!ew1)) (c3 := .bool false) (c4 := .bool false) (c5 := .bool (!ac)) (c6 := .bool (!ea1)) (c7 := .bool false) (c8 := .bool (!mb)) HX9.out.below (Nat.le_succ _))
      clear hru
      go_wp2_with fail
      refine bodyPost_ret (results_rul (fn := Try.f47) rfl _ _ (w.heap.size + 1) #[.bool false, .bool false, .bool (!ew1), .bool false, .bool false, .bool (!ac), .bool (!ea1), .bool false, .bool (!mb)] rfl HR9.out rfl) rfl ?_
      exact ⟨rfl, HB9.out⟩
end
end Go.Proofs.Ytjfgmdiafhkbgaa
