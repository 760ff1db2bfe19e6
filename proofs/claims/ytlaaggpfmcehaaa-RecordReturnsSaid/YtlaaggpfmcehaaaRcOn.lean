import Derived.Test.YtlaaggpfmcehaaaRcZ
namespace Go.Proofs.Ytlaaggpfmcehaaa
open Go.RowKit
open Rc (L V Ch)

theorem Rw.rb {w : World} {v : Value} {l : List Ch} (h : Rw w v l) : ∀ c ∈ l, c.rb < 18446744073709551616 := by
  intro c hc
  obtain ⟨j, hj, rfl⟩ := List.mem_iff_getElem.mp hc
  obtain ⟨p, cap, hv, h2⟩ := h
  obtain ⟨b, off, hp, hlt, hx⟩ := h2 (by omega)
  obtain ⟨t, _, _, h3, _⟩ := hx j hj
  rwa [getElem!_pos l j hj] at h3
theorem enco_inj {l m : List Ch} (hl : (Rc.enco l).2 = 0) (hm : (Rc.enco m).2 = 0) (rl : ∀ c ∈ l, c.rb < 18446744073709551616) (rm : ∀ c ∈ m, c.rb < 18446744073709551616) (he : (Rc.enco l).1 = (Rc.enco m).1) : l = m := by
  obtain ⟨h1, h2, h3, h4⟩ := Rc.enco_ok hl
  obtain ⟨k1, k2, k3, k4⟩ := Rc.enco_ok hm
  rw [h4, k4] at he
  have hr : Rc.row l = Rc.row m := by
    have := congrArg (fun b : ByteArray => b.data.toList) he
    simpa using this
  exact (Rc.row_apart (more := []) (by rw [List.append_nil]; exact hr) (fun c hc => ⟨h2 c hc, rl c hc⟩) (fun c hc => ⟨k2 c hc, rm c hc⟩) (by omega) (by omega)).1
theorem enco_head {l : List Ch} (hl : (Rc.enco l).2 = 0) : ∃ rest, (Rc.enco l).1 = ⟨(UInt8.ofNat l.length :: rest).toArray⟩ ∧ (1 ≤ l.length ∧ l.length ≤ 16) ∧ (1 ≤ (Rc.enco l).1.size ∧ (Rc.enco l).1.size ≤ 2048) := by
  obtain ⟨h1, h2, h3, h4⟩ := Rc.enco_ok hl
  have e : Rc.row l = UInt8.ofNat l.length :: Rc.all l := by rw [Rc.row, Pk.enc_lt (by omega)]; rfl
  refine ⟨Rc.all l, by rw [h4, e], h1, ?_⟩
  have hs : (Rc.enco l).1.size = (Rc.row l).length := by rw [h4]; simp [ByteArray.size]
  rw [hs, e]
  rw [e] at h3
  exact ⟨by simp, h3⟩
theorem head_byte {a : ByteArray} {rest : List UInt8} {n : Nat} (ha : a = ⟨(UInt8.ofNat n :: rest).toArray⟩) (hn : n ≤ 16) (h : 0 < a.size) : (wrap64 (((a[0]'h).toNat : Nat) : Int) != (n : Int)) = false := by
  subst ha
  have : ((⟨(UInt8.ofNat n :: rest).toArray⟩ : ByteArray)[0]'h).toNat = n := Pk.toNat_ofNat (n := n) (by omega)
  rw [this]
  simp only [wrap64]
  rw [show ((n : Int) + 9223372036854775808) % 18446744073709551616 - 9223372036854775808 = (n : Int) by omega]
  simp
set_option maxHeartbeats 1600000 in
set_option maxRecDepth 8000 in
theorem recordOnly_walk {w : World} {v v' : Value} {l m : List Ch} (h : Rw w v l) (h' : Rw w v' m) (hl : l.length ≤ 1353245080301) :
    Calls Try.prog 5 #[v, v'] w fun e w' => e = .returned (.bool true) ∧ Below w.heap.size w w' := by
  have hr := h.rb
  have hr' := h'.rb
  have HE := hide (encode_any h)
  have HE' := hide fun (W : World) (hW : Below w.heap.size w W) => encode_any (h'.below hW (Nat.le_refl _))
  have HS := hide fun (W : World) (hW : Below w.heap.size w W) => same_any (h.below hW (Nat.le_refl _)) (h'.below hW (Nat.le_refl _)) (by omega)
  obtain ⟨p, cap, rfl⟩ := h.len
  obtain ⟨p', cap', rfl⟩ := h'.len
  have HI := hide fun (h1 : (Rc.enco l).2 = 0) (h2 : (Rc.enco m).2 = 0) => enco_inj h1 h2 hr hr'
  have HH := hide (enco_head (l := l))
  have HEQ : Hid (l = m → Rc.enco l = Rc.enco m) := hide fun e => by rw [e]
  clear h h' hr hr'
  generalize (Rc.enco l) = E at *
  generalize (Rc.enco m) = F at *
  obtain ⟨a, e1⟩ := E
  obtain ⟨b, f1⟩ := F
  simp only at HE HE' HI HH
  go_enter Try.func5, Try.ntmps5
  go_wp2_with fail
  refine HE.out.mono ?_
  rintro e w1 ⟨rfl, hb1⟩
  have HB1 := hide hb1
  have HE1 := hide (HE'.out _ hb1)
  clear HE HE' hb1
  go_wp2_with fail
  refine HE1.out.mono ?_
  rintro e w2 ⟨rfl, hb2⟩
  have HB2 := hide (HB1.out.trans (hb2.mono HB1.out.size))
  clear HE1 HB1 hb2
  by_cases he1 : e1 = 0
  · subst he1
    obtain ⟨rest, ha, ⟨hl1, hl16⟩, ha1, ha2⟩ := HH.out rfl
    have HA := hide ha
    clear ha
    have HT : Hid (∀ W, Below w.heap.size w W → Calls Try.prog 11 #[] W fun e w' => e = .returned (.bool true) ∧ Below w.heap.size w w') := hide fun W hW => (fixed_any W).mono fun _ _ hf => ⟨hf.1, hW.trans (hf.2.mono hW.size)⟩
    have h0a : 0 < a.size := by omega
    have hq := head_byte HA.out hl16 h0a
    have d1 : decide ((a.size : Int) < 1) = false := by simp; omega
    have d2 : decide ((2048 : Int) < (a.size : Int)) = false := by simp; omega
    have d3 : decide ((l.length : Int) < 1) = false := by simp; omega
    have d4 : decide ((16 : Int) < (l.length : Int)) = false := by simp; omega
    by_cases hf1 : f1 = 0
    · subst hf1
      have HS2 := hide (HS.out _ HB2.out)
      have hab : (a = b ↔ l = m) := ⟨fun e => HI.out rfl rfl e, fun e => congrArg Prod.fst (HEQ.out e)⟩
      clear HS HI HH
      by_cases hlm : l = m
      · obtain rfl := hab.mpr hlm
        rw [decide_eq_true hlm] at HS2
        clear hab HEQ hlm
        go_wp2_with fail
        refine HS2.out.mono ?_
        rintro e w3 ⟨rfl, hb3⟩
        have HB3 := hide (HB2.out.trans (hb3.mono HB2.out.size))
        clear HS2 HB2 hb3
        go_wp2_with fail
        refine (HT.out _ HB3.out).mono ?_
        rintro e w4 ⟨rfl, hb4⟩
        go_wp2
        go_ret
        exact ⟨rfl, hb4⟩
      · have hne : ¬ a = b := fun e => hlm (hab.mp e)
        have hbn : (a.toList == b.toList) = false := beq_eq_false_iff_ne.2 fun h => hne (toList_inj h)
        have hbn' : ¬ a.toList = b.toList := fun h => hne (toList_inj h)
        rw [decide_eq_false hlm] at HS2
        clear hab HEQ hlm hne
        go_wp2_with fail
        refine HS2.out.mono ?_
        rintro e w3 ⟨rfl, hb3⟩
        have HB3 := hide (HB2.out.trans (hb3.mono HB2.out.size))
        clear HS2 HB2 hb3
        go_wp2_with fail
        refine (HT.out _ HB3.out).mono ?_
        rintro e w4 ⟨rfl, hb4⟩
        go_wp2
        go_ret
        exact ⟨rfl, hb4⟩
    · have hbf : ((f1 : Int) == 0) = false := beq_eq_false_iff_ne.2 (by omega)
      clear HS HI HH HEQ
      go_wp2_with fail
      refine (HT.out _ HB2.out).mono ?_
      rintro e w4 ⟨rfl, hb4⟩
      go_wp2
      go_ret
      exact ⟨rfl, hb4⟩
  · have hbe : ((e1 : Int) == 0) = false := beq_eq_false_iff_ne.2 (by omega)
    have HT : Hid (∀ W, Below w.heap.size w W → Calls Try.prog 11 #[] W fun e w' => e = .returned (.bool true) ∧ Below w.heap.size w w') := hide fun W hW => (fixed_any W).mono fun _ _ hf => ⟨hf.1, hW.trans (hf.2.mono hW.size)⟩
    clear HS HI HH HEQ
    go_wp2_with fail
    refine (HT.out _ HB2.out).mono ?_
    rintro e w4 ⟨rfl, hb4⟩
    go_wp2
    go_ret
    exact ⟨rfl, hb4⟩
end Go.Proofs.Ytlaaggpfmcehaaa
