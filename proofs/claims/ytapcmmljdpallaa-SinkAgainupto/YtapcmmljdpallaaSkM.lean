import Derived.Test.YtapcmmljdpallaaSkL
namespace Go.Proofs.Ytapcmmljdpallaa.K
open Go.RowKit Go.MapKept Go.Shelf
open Wr (Ms)
set_option maxRecDepth 20000

/-- is it a put? -/
def isPut (d : ByteArray) : Bool := decide ((Wr.decode limP d).2 = 0 ∧ (Wr.decode limP d).1.k = 6)
def hm (d : ByteArray) : Ms := (Wr.decode limP d).1
def hst (s : St) (d : ByteArray) : St := if isPut d = true then nxt s (hm d).jo (hm d).ba (hm d).ix (hm d).tx else s
def hnw (s : St) (d : ByteArray) : List Ev := if isPut d = true then news s (hm d).jo (hm d).ba (hm d).ix (hm d).tx else []
/-- behind a Hear -/
def HrP (F : Nat → Prop) (b : Nat) (s : St) (T : List Ev) (node life : Int) (d : ByteArray) (w : World) (e : Ending) (w' : World) : Prop :=
  Gp F b (hst s d) (T ++ hnw s d) w w' ∧
  ((isPut d = false ∧ e = .returned (.slice none 0 0)) ∨
   (isPut d = true ∧ ∃ g, e = .returned (.slice (some ⟨g, 0, none⟩) 1 1) ∧ w.heap.size ≤ g ∧ w'.heap[g]? = some (.cells #[.int .i64 0, .int .i64 1, .int .i64 0, .int .i64 node, .int .i64 life, .string (encB (rep s (hm d)))] 59 (0, 0)) ∧ Mv F w w'))
set_option maxHeartbeats 2000000 in
theorem hear_err {w : World} {b : Nat} {s : St} {T : List Ev} {F : Nat → Prop} (h : Sk w b s T F) (node life : Int) (d : ByteArray) (hd : d.size ≤ 9223372036854775807) (he : (Wr.decode limP d).2 ≠ 0) :
    Calls Try.prog 8 #[.pointer (some ⟨b, 0, none⟩), .agg #[.int .i64 node, .int .i64 life], .string d] w (HrP F b s T node life d w) := by
  have hp : isPut d = false := by unfold isPut; simp [he]
  have HP : Hid (isPut d = false ∧ hst s d = s ∧ hnw s d = []) := hide ⟨hp, by unfold hst; rw [hp]; rfl, by unfold hnw; rw [hp]; rfl⟩
  have H := hide h
  have HD := hide (fun w => decode_any d w hd)
  have hn : (((Wr.decode limP d).2 : Int) != 0) = true := by simpa using he
  generalize (Wr.decode limP d).2 = er at *
  generalize (Wr.decode limP d).1 = m at *
  obtain ⟨k, se, nu, jo, ba, ix, co, rc, rb, tx, pr⟩ := m
  rw [show msgC (⟨k, se, nu, jo, ba, ix, co, rc, rb, tx, pr⟩ : Ms) = #[.int .i64 k, .int .i64 se, .int .i64 nu, .int .i64 jo, .int .i64 ba, .int .i64 ix, .int .i64 co, .int .i64 rc, .int .u64 (rb : Int), .string tx, .string pr] from rfl] at HD
  clear h hp he
  go_enter Try.func8, Try.ntmps8
  go_wp2_with fail
  refine (HD.out _).mono ?_
  rintro e w1 ⟨rfl, hb1⟩
  have HB1 := hide (below_of (below_alloc w _) hb1)
  clear hb1 HD
  go_wp2_with fail
  go_ret
  refine ⟨?_, .inl ⟨HP.out.1, rfl⟩⟩
  rw [HP.out.2.1, HP.out.2.2, List.append_nil]
  exact H.out.gp (HB1.out.alloc HB1.out.size _)
set_option maxHeartbeats 2000000 in
theorem hear_kind {w : World} {b : Nat} {s : St} {T : List Ev} {F : Nat → Prop} (h : Sk w b s T F) (node life : Int) (d : ByteArray) (hd : d.size ≤ 9223372036854775807) (he : (Wr.decode limP d).2 = 0) (hk : (Wr.decode limP d).1.k ≠ 6) :
    Calls Try.prog 8 #[.pointer (some ⟨b, 0, none⟩), .agg #[.int .i64 node, .int .i64 life], .string d] w (HrP F b s T node life d w) := by
  have hp : isPut d = false := by unfold isPut; simp [hk]
  have HP : Hid (isPut d = false ∧ hst s d = s ∧ hnw s d = []) := hide ⟨hp, by unfold hst; rw [hp]; rfl, by unfold hnw; rw [hp]; rfl⟩
  have H := hide h
  have HD := hide (fun w => decode_any d w hd)
  rw [he] at HD
  clear he
  generalize (Wr.decode limP d).1 = m at *
  obtain ⟨k, se, nu, jo, ba, ix, co, rc, rb, tx, pr⟩ := m
  simp only at hk
  have hk2 : (k != 6) = true := by simpa using hk
  rw [show msgC (⟨k, se, nu, jo, ba, ix, co, rc, rb, tx, pr⟩ : Ms) = #[.int .i64 k, .int .i64 se, .int .i64 nu, .int .i64 jo, .int .i64 ba, .int .i64 ix, .int .i64 co, .int .i64 rc, .int .u64 (rb : Int), .string tx, .string pr] from rfl] at HD
  clear h hp hk
  go_enter Try.func8, Try.ntmps8
  go_wp2_with fail
  refine (HD.out _).mono ?_
  rintro e w1 ⟨rfl, hb1⟩
  have HB1 := hide (below_of (below_alloc w _) hb1)
  clear hb1 HD
  go_wp2_with fail
  go_ret
  refine ⟨?_, .inl ⟨HP.out.1, rfl⟩⟩
  rw [HP.out.2.1, HP.out.2.2, List.append_nil]
  exact H.out.gp (HB1.out.alloc HB1.out.size _)
set_option maxHeartbeats 2000000 in
theorem hear_put {w : World} {b : Nat} {s : St} {T : List Ev} {F : Nat → Prop} (h : Sk w b s T F) (hT : T.length ≤ 1000000000) (node life : Int) (d : ByteArray) (hd : d.size ≤ 9223372036854775807) (he : (Wr.decode limP d).2 = 0) (hk : (Wr.decode limP d).1.k = 6) :
    Calls Try.prog 8 #[.pointer (some ⟨b, 0, none⟩), .agg #[.int .i64 node, .int .i64 life], .string d] w (HrP F b s T node life d w) := by
  have hp : isPut d = true := by unfold isPut; simp [hk, he]
  have H := hide h
  have HD := hide (fun w => decode_any d w hd)
  rw [he] at HD
  clear he
  have HP : Hid (isPut d = true ∧ hst s d = nxt s (hm d).jo (hm d).ba (hm d).ix (hm d).tx ∧ hnw s d = news s (hm d).jo (hm d).ba (hm d).ix (hm d).tx) := hide ⟨hp, by unfold hst; rw [hp]; rfl, by unfold hnw; rw [hp]; rfl⟩
  have hmd : hm d = (Wr.decode limP d).1 := rfl
  have HE : Hid (∀ w, Calls Try.prog 15 #[.agg (msgC (rep s (hm d)))] w fun e w' => e = .returned (.tuple #[.string (encB (rep s (hm d))), .int .i64 (Wr.check (rep s (hm d)) : Int)]) ∧ Below w.heap.size w w') := hide fun w => encode_any (rep s (hm d)) (by unfold rep; split <;> (show (0 : Nat) < _; decide)) w
  have HR : Hid (∀ w1, Sk w1 b s T F → Calls Try.prog 16 #[.pointer (some ⟨b, 0, none⟩), .agg (msgC (hm d))] w1 fun e w' => e = .returned (.agg (msgC (rep s (hm d)))) ∧ Gp F b (nxt s (hm d).jo (hm d).ba (hm d).ix (hm d).tx) (T ++ news s (hm d).jo (hm d).ba (hm d).ix (hm d).tx) w1 w') := hide fun w1 h1 => reply_any h1 hT (hm d)
  have HLT := hide h.lt
  rw [← hmd] at HD hk
  clear hmd
  generalize hq : hm d = m at *
  generalize hr : rep s m = r at *
  generalize hen : encB r = er at *
  generalize (Wr.check r : Int) = ck at *
  have HQ : Hid (encB (rep s (hm d)) = er) := hide (by rw [hq, hr]; exact hen)
  obtain ⟨k, se, nu, jo, ba, ix, co, rc, rb, tx, pr⟩ := m
  obtain ⟨k2, se2, nu2, jo2, ba2, ix2, co2, rc2, rb2, tx2, pr2⟩ := r
  simp only at hk HP
  subst hk
  unfold msgC at HD HR HE
  dsimp only at HD HR HE
  clear h hp hq hr hen hT hd
  go_enter Try.func8, Try.ntmps8
  go_wp2_with fail
  refine (HD.out _).mono ?_
  rintro e w1 ⟨rfl, hb1⟩
  have HB1 := hide (below_of (below_alloc w (.cells #[.int .i64 node, .int .i64 life] 31)) hb1)
  have hA1 : w1.heap[w.heap.size]? = some (.cells #[.int .i64 node, .int .i64 life] 31 (0, 0)) := (hb1.block _ (by simp)).trans (heap_alloc_new w _)
  have hs1 : w.heap.size < w1.heap.size := lt_blk hA1
  have HA1 := hide hA1
  clear hb1 HD hA1
  go_wp2_with fail
  have HB2 := hide (HB1.out.alloc HB1.out.size (.cells #[.int .i64 6, .int .i64 se, .int .i64 nu, .int .i64 jo, .int .i64 ba, .int .i64 ix, .int .i64 co, .int .i64 rc, .int .u64 (rb : Int), .string tx, .string pr] 61))
  refine (HR.out _ (H.out.below HB2.out)).mono ?_
  rintro e w3 ⟨rfl, hg3⟩
  have hg3' := Gp.pre HB2.out hg3
  obtain ⟨_, _, hM3, _⟩ := hg3
  have hA3 : w3.heap[w.heap.size]? = some (.cells #[.int .i64 node, .int .i64 life] 31 (0, 0)) := (hM3.block _ (by simp; omega) (fun hf => by have := HLT.out _ hf; omega)).trans (((below_alloc w1 _).block _ hs1).trans HA1.out)
  have HA3 := hide hA3
  have HG3 := hide hg3'
  have hs3 : w.heap.size < w3.heap.size := lt_blk hA3
  clear hM3 hg3' HB2 HR hA3
  go_wp2_with fail
  refine (HE.out _).mono ?_
  rintro e w4 ⟨rfl, hb4⟩
  have hA4 := (hb4.block _ hs3).trans HA3.out
  have n0 : w4.cell? ⟨w.heap.size, 0, none⟩ = some (.int .i64 node) := by simp [World.cell?, hA4]
  have n1 : w4.cell? ⟨w.heap.size, 1, none⟩ = some (.int .i64 life) := by simp [World.cell?, hA4]
  have HG4 := hide (HG3.out.below hb4)
  have hs4 : w.heap.size ≤ w4.heap.size := by have := hb4.size; omega
  clear hb4 hA4 HE
  go_wp2_with fail
  go_ret
  have hgf := HG4.out.below (below_alloc w4 (.cells #[.int .i64 0, .int .i64 1, .int .i64 0, .int .i64 node, .int .i64 life, .string er] 59))
  refine ⟨?_, .inr ⟨HP.out.1, w4.heap.size, rfl, hs4, by rw [HQ.out]; exact heap_alloc_new w4 _, ?_⟩⟩
  · rw [HP.out.2.1, HP.out.2.2]
    exact hgf
  · obtain ⟨_, _, hM, _⟩ := hgf
    exact hM
/-- Hear -/
theorem Sk.hear {w : World} {b : Nat} {s : St} {T : List Ev} {F : Nat → Prop} (h : Sk w b s T F) (hT : T.length ≤ 1000000000) (node life : Int) (d : ByteArray) (hd : d.size ≤ 9223372036854775807) :
    Calls Try.prog 8 #[.pointer (some ⟨b, 0, none⟩), .agg #[.int .i64 node, .int .i64 life], .string d] w (HrP F b s T node life d w) := by
  by_cases he : (Wr.decode limP d).2 = 0
  · by_cases hk : (Wr.decode limP d).1.k = 6
    · exact hear_put h hT node life d hd he hk
    · exact hear_kind h node life d hd he hk
  · exact hear_err h node life d hd he
end Go.Proofs.Ytapcmmljdpallaa.K
