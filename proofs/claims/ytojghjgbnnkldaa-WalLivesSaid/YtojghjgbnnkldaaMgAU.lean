import Derived.Test.YtojghjgbnnkldaaMgAT

section
namespace Go.Proofs.Ytojghjgbnnkldaa
open Go.RowKit Go.Shelf
open Wl (Hd WS Log)

/-- what a call under a cut leaves -/
inductive Ends (d : D.DS) (ws ws1 : WS) (s s1 : ByteArray) (l l1 : List ByteArray) (K n : Nat) (B : Int) (Y : Int × D.DS × WS) : Prop where
  | no (h0 : Y.1 ≠ 0) (h2 : Y.1 ≠ 2) (hd : Y.2.1 = armed d n B) (hw : Y.2.2 = ws)
  | yes (h0 : Y.1 = 0) (hn : n = 0 ∨ K + 1 < n) (hd : Y.2.1.dead = false) (hw : Y.2.2 = ws1) (hR : Y.2.1.R.length = d.R.length + (K + 1)) (hC : ConX Y.2.1.revive ws1 s1 l1) (hok : Y.2.1.ok) (hl : Y.2.1.S.length = d.S.length)
  | last (h2 : Y.1 = 2) (hn : n = K + 1) (hB : B = 128) (hd : Y.2.1.dead = true) (hw : Y.2.2 = { ws with gone := true }) (hR : Y.2.1.R.length = d.R.length + K) (hC : ConX Y.2.1.revive ws1 s1 l1) (hok : Y.2.1.ok) (hl : Y.2.1.S.length = d.S.length)
  | cut (h2 : Y.1 = 2) (h1 : 1 ≤ n) (hn : n ≤ K + 1) (hB : ¬ (n = K + 1 ∧ B = 128)) (hd : Y.2.1.dead = true) (hw : Y.2.2 = { ws with gone := true }) (hR : Y.2.1.R.length = d.R.length + (n - 1)) (hC : ConX Y.2.1.revive ws s l) (hok : Y.2.1.ok) (hl : Y.2.1.S.length = d.S.length)
theorem Lay.ends {d : D.DS} {ws ws1 : WS} {s s1 : ByteArray} {l l1 : List ByteArray} {K n : Nat} {B : Int} {Y : Int × D.DS} (h : Lay d ws ws1 s s1 l l1 K n B Y) : Ends d ws ws1 s s1 l l1 K n B (Wl.done ws ws1 Y) := by
  unfold Wl.done
  rcases h.ways with ⟨a1, a2, a3, a4, a5⟩ | ⟨a1, a2, a3, a4, a5, a6⟩
  · rw [if_pos a1]
    exact .yes a1 a2 a3 rfl a4 a5 h.ok h.len
  · rw [if_neg (by rw [a1]; decide), if_pos a1]
    rcases a6 with ⟨b1, b2, b3⟩ | ⟨b1, b2⟩
    · exact .last a1 b1 b2 a4 rfl (by rw [a5, b1]; rfl) b3 h.ok h.len
    · exact .cut a1 a2 a3 b1 a4 rfl a5 b2 h.ok h.len
theorem con_new {d d' : D.DS} {ws : WS} {s : ByteArray} {l : List ByteArray} (h : Con d ws s l) (ho : Oth (d'.S.getD (1 - ws.h.num % 2) ByteArray.empty) ws.h.num) (hS : d'.S = d.S) (hok : d'.ok) (hd : d'.dead = false) (hl : d'.left = 0) : ConX d' ws s l := ⟨h.same hS hok hd hl, ho⟩
def wsA (ws : WS) (r : ByteArray) : WS := ⟨Wl.hdA ws.h r, ws.rc + 1, ws.gone⟩
def wsS (ws : WS) (t : ByteArray) : WS := ⟨Wl.hdS ws.h t, 0, ws.gone⟩
def kA (d : D.DS) (ws : WS) (r : ByteArray) : Nat := (Wl.sects (Wl.ahead d ws.h ++ Wl.frame r)).length
/-- an append under a cut -/
theorem ConX.appends {d : D.DS} {ws : WS} {s : ByteArray} {l : List ByteArray} (h : ConX d ws s l) (hn : ws.h.num < 1099511627776) (r : ByteArray) {n : Nat} (hnn : n ≤ 9223372036854775807) {B : Int} (hB0 : 0 ≤ B) (hB1 : B ≤ 128) :
    Ends d ws (wsA ws r) s s l (l ++ [r]) (kA d ws r) n B (Wl.append (armed d n B) ws r) ∧ (Wl.append (armed d n B) ws r).2.1.R.length ≤ d.R.length + 600 := by
  have hC := h.con
  by_cases h1 : r.size < 1 ∨ 2048 < r.size
  · have e : Wl.append (armed d n B) ws r = (92, armed d n B, ws) := by unfold Wl.append Wl.powered; rw [if_neg (by simp [hC.gone]; exact hC.live), if_pos h1]
    rw [e]; exact ⟨.no (by show (92 : Int) ≠ 0; decide) (by show (92 : Int) ≠ 2; decide) rfl rfl, by show d.R.length ≤ _; omega⟩
  by_cases hr : Wl.room d.S.length ws.h < r.size
  · have e : Wl.append (armed d n B) ws r = (93, armed d n B, ws) := by unfold Wl.append Wl.powered; rw [if_neg (by simp [hC.gone]; exact hC.live), if_neg h1, if_pos (show Wl.room (armed d n B).S.length ws.h < r.size from hr)]
    rw [e]; exact ⟨.no (by show (93 : Int) ≠ 0; decide) (by show (93 : Int) ≠ 2; decide) rfl rfl, by show d.R.length ≤ _; omega⟩
  have h1' : 1 ≤ r.size := by omega
  have h2' : r.size ≤ 2048 := by omega
  have hr' : r.size ≤ Wl.room d.S.length ws.h := by omega
  have eA : ∀ d' : D.DS, d'.dead = false → d'.S = d.S → Wl.append d' ws r = Wl.done ws (wsA ws r) (Wl.layW d' (Wl.place d ws.h) (Wl.sects (Wl.ahead d ws.h ++ Wl.frame r)) (Wl.hdA ws.h r)) := fun d' hd hS => by
    unfold Wl.append Wl.powered Wl.place Wl.ahead Wl.place
    rw [hS, if_neg (by simp [hC.gone, hd]), if_neg h1, if_neg hr, if_neg (by omega)]
    rfl
  have hfit := room_fit h1' hr'
  have hfl := frame_len r
  have hpos := Pk.enc_pos r.size
  have hused := hC.wok.used
  have hhb := hb_le hC.ok
  obtain ⟨g1, g2, g3⟩ := hC.wok.fits
  have hhf := hC.wok.half
  have h8 : ws.h.half * Wl.hs d.S.length ≤ Wl.hs d.S.length := by
    have := Nat.mul_le_mul_right (Wl.hs d.S.length) (show ws.h.half ≤ 1 by omega)
    omega
  have hbe : Wl.hb d.S.length = Wl.hs d.S.length * 128 := rfl
  have hm : ws.h.used % 128 < 128 := Nat.mod_lt _ (by decide)
  have hpl : Wl.place d ws.h = Wl.first d.S.length ws.h.half + ws.h.used / 128 := rfl
  have hfi : Wl.first d.S.length ws.h.half = 2 + ws.h.half * Wl.hs d.S.length := rfl
  have hplt : Wl.place d ws.h < d.S.length := by rw [hpl, hfi]; omega
  have hsec8 : (d.S.getD (Wl.place d ws.h) ByteArray.empty).size = 128 := by
    rw [List.getD_eq_getElem?_getD, List.getElem?_eq_getElem hplt]; exact hC.ok.s128.get _
  have hal : (Wl.ahead d ws.h).length = ws.h.used % 128 := by
    unfold Wl.ahead; rw [List.length_take, ← D.size_list, hsec8]; omega
  have hup : Wl.up (Wl.ahead d ws.h ++ Wl.frame r).length ≤ 20 ∧ Wl.place d ws.h + Wl.up (Wl.ahead d ws.h ++ Wl.frame r).length ≤ d.S.length ∧ 1 ≤ Wl.up (Wl.ahead d ws.h ++ Wl.frame r).length := by
    have henc := Pk.enc_ten (n := r.size) (by omega)
    rw [List.length_append, hal, hfl, hpl, hfi]; unfold Wl.up; omega
  have hkl : Wl.place d ws.h + (Wl.sects (Wl.ahead d ws.h ++ Wl.frame r)).length ≤ d.S.length := by rw [sects_len]; exact hup.2.1
  have hp2 : 2 ≤ Wl.place d ws.h := by rw [hpl, hfi]; omega
  have hf2 : 2 ≤ Wl.first d.S.length ws.h.half := by rw [hfi]; omega
  have hX0 : ((Wl.sects (Wl.ahead d ws.h ++ Wl.frame r)).getD 0 ByteArray.empty).data.toList.take (ws.h.used % 128) = (d.S.getD (Wl.place d ws.h) ByteArray.empty).data.toList.take (ws.h.used % 128) := by
    unfold Wl.sects
    rw [List.getD_eq_getElem?_getD, List.getElem?_map, List.getElem?_range (by omega)]
    show (((Wl.pad (Wl.ahead d ws.h ++ Wl.frame r)).drop (0 * 128)).take 128).take _ = _
    rw [Nat.zero_mul, List.drop_zero, List.take_take, show min (ws.h.used % 128) 128 = ws.h.used % 128 by omega]
    unfold Wl.pad
    rw [List.append_assoc, List.take_append_of_le_length (by rw [hal]; exact Nat.le_refl _)]
    unfold Wl.ahead
    rw [List.take_take, Nat.min_self]
  have hXs := sects_128 (Wl.ahead d ws.h ++ Wl.frame r)
  have hXl : 1 ≤ (Wl.sects (Wl.ahead d ws.h ++ Wl.frame r)).length := by rw [sects_len]; exact hup.2.2
  have hK : (Wl.sects (Wl.ahead d ws.h ++ Wl.frame r)).length ≤ 20 := by rw [sects_len]; exact hup.1
  have calm := hC.append h1' h2' hr' hn
  rw [eA d hC.live rfl] at calm
  obtain ⟨a1, a2, a3, a4, a5, a6⟩ := layW_calm hC.ok hC.live hC.calm hkl hXs (by omega) (Wl.hdA ws.h r)
  have hnum : (Wl.hdA ws.h r).num = ws.h.num + 1 := rfl
  have L := lay_armed (ws1 := wsA ws r) (s1 := s) (l1 := l ++ [r]) h (k := Wl.place d ws.h) (X := Wl.sects (Wl.ahead d ws.h ++ Wl.frame r)) (hh := Wl.hdA ws.h r) hp2 hkl hXs hnum ?_ ?_ ?_ hnn hB0 hB1
  · have E := L.ends
    rw [eA (armed d n B) hC.live rfl]
    refine ⟨E, ?_⟩
    have e0 : (Wl.done ws (wsA ws r) (Wl.layW (armed d n B) (Wl.place d ws.h) (Wl.sects (Wl.ahead d ws.h ++ Wl.frame r)) (Wl.hdA ws.h r))).2.1 = (Wl.layW (armed d n B) (Wl.place d ws.h) (Wl.sects (Wl.ahead d ws.h ++ Wl.frame r)) (Wl.hdA ws.h r)).2 := rfl
    rw [e0]
    rcases L.ways with ⟨_, _, _, b4, _⟩ | ⟨_, _, b3, _, b5, _⟩ <;> omega
  · -- a cut in a sector
    intro j b hj hb
    generalize hXX : Wl.sects (Wl.ahead d ws.h ++ Wl.frame r) = X at *
    have htl : Wl.place d ws.h + (X.take j).length ≤ d.S.length := by rw [List.length_take]; omega
    have hP := putS_len htl
    refine Near.stands hC.ok.s128 ⟨by rw [D.layS_len, hP], D.layS_128 (putS_128 hC.ok.s128 fun x hx => hXs x (List.mem_of_mem_take hx)) (by rw [hP]; omega) (by rw [D.ext_size]; omega), ?_, ?_⟩ (by rw [← hpl]; exact hplt)
    · rw [← hpl]
      congr 1
      unfold D.layS
      rw [List.take_set, List.set_eq_of_length_le (by rw [List.length_take]; omega), putS_take (by omega)]
    · rw [← hpl]
      by_cases hj0 : j = 0
      · subst hj0
        rw [List.take_zero, putS_nil, Nat.add_zero, getD_lay hplt]
        exact laid_take (hXs _ (list_getD_mem (by omega))) hb hX0
      · rw [getD_lay_far (by omega)]
        obtain ⟨x0, X', rfl⟩ : ∃ x0 X', X = x0 :: X' := by
          cases X with
          | nil => simp at hj
          | cons a b => exact ⟨a, b, rfl⟩
        obtain ⟨j', rfl⟩ : ∃ j', j = j' + 1 := ⟨j - 1, by omega⟩
        rw [List.take_succ_cons, putS_at (by omega)]
        exact hX0
  · -- in the head
    intro b hb
    generalize hXX : Wl.sects (Wl.ahead d ws.h ++ Wl.frame r) = X at *
    have hP := putS_len hkl
    have hi : (Wl.hdA ws.h r).num % 2 < 2 := Nat.mod_lt _ (by decide)
    refine Near.stands hC.ok.s128 ⟨by rw [D.layS_len, hP], D.layS_128 (putS_128 hC.ok.s128 hXs) (by rw [hP]; omega) (by rw [D.ext_size]; omega), ?_, ?_⟩ (by rw [← hpl]; exact hplt)
    · rw [← hpl]
      unfold D.layS
      rw [List.take_set, List.drop_set_of_lt (by omega), putS_take (by omega)]
    · rw [← hpl, getD_lay_far (by omega)]
      obtain ⟨x0, X', rfl⟩ : ∃ x0 X', X = x0 :: X' := by
        cases X with
        | nil => simp at hXl
        | cons a b => exact ⟨a, b, rfl⟩
      rw [putS_at (by omega)]
      exact hX0
  · -- behind it
    intro d' hS hok hd hl
    have e0 : (Wl.done ws (wsA ws r) (Wl.layW d (Wl.place d ws.h) (Wl.sects (Wl.ahead d ws.h ++ Wl.frame r)) (Wl.hdA ws.h r))) = (0, (Wl.layW d (Wl.place d ws.h) (Wl.sects (Wl.ahead d ws.h ++ Wl.frame r)) (Wl.hdA ws.h r)).2, wsA ws r) := by
      unfold Wl.done; rw [a1, if_pos rfl]
    rw [e0] at calm
    refine con_new calm.2.1 ?_ (hS.trans a2.symm) hok hd hl
    have hi : (Wl.hdA ws.h r).num % 2 < 2 := Nat.mod_lt _ (by decide)
    have hn2 : (ws.h.num + 1) % 2 ≠ ws.h.num % 2 := by omega
    have e1 : 1 - (wsA ws r).h.num % 2 = ws.h.num % 2 := by show 1 - (ws.h.num + 1) % 2 = _; omega
    have hlt3 : ws.h.num % 2 < 2 := Nat.mod_lt _ (by decide)
    rw [hS, e1, hnum, getD_set_far hn2, getD_put (by omega) (by omega), hC.head]
    exact oth_head (by show ws.h.num < ws.h.num + 1; omega) (by omega) (by show ws.h.num % 256 ≠ (ws.h.num + 1 + 1) % 256; omega)
theorem half_keep {S Y : List ByteArray} {k f hs p : Nat} {x : ByteArray} (hkl : k + Y.length ≤ S.length) (hc : (f + hs ≤ k ∧ (f + hs ≤ p ∨ p < f)) ∨ (k + Y.length ≤ f ∧ p < f)) : ((D.layS (putS S k Y) p x).drop f).take hs = (S.drop f).take hs := by
  unfold D.layS
  generalize D.laid x ((putS S k Y).getD p ByteArray.empty) = v
  rcases hc with ⟨h1, h2⟩ | ⟨h1, h2⟩
  · have e : ∀ Z : List ByteArray, (Z.drop f).take hs = (Z.take (f + hs)).drop f := fun Z => by rw [List.drop_take, show f + hs - f = hs by omega]
    have e2 : (putS S k Y).take (f + hs) = S.take (f + hs) := by
      have := putS_take (S := S) (k := k) (l := Y) (by omega)
      have h3 := congrArg (List.take (f + hs)) this
      rw [List.take_take, List.take_take, show min (f + hs) k = f + hs by omega] at h3
      exact h3
    rw [e, e S, List.take_set, e2]
    rcases h2 with h2 | h2
    · rw [List.set_eq_of_length_le (by rw [List.length_take]; omega)]
    · rw [List.drop_set_of_lt h2]
  · rw [List.drop_set_of_lt h2]
    congr 1
    unfold putS
    rw [List.drop_append, List.drop_of_length_le (by rw [List.length_take]; omega), List.nil_append, List.drop_append, List.drop_of_length_le (by rw [List.length_take]; omega), List.nil_append, List.drop_drop, List.length_take]
    congr 1
    omega
def kS (t : ByteArray) : Nat := (Wl.sects t.data.toList).length
/-- a snapshot under a cut -/
theorem ConX.snaps {d : D.DS} {ws : WS} {s : ByteArray} {l : List ByteArray} (h : ConX d ws s l) (hn : ws.h.num < 1099511627776) (t : ByteArray) {n : Nat} (hnn : n ≤ 9223372036854775807) {B : Int} (hB0 : 0 ≤ B) (hB1 : B ≤ 128) :
    Ends d ws (wsS ws t) s t l [] (kS t) n B (Wl.snapshot (armed d n B) ws t) ∧ (Wl.snapshot (armed d n B) ws t).2.1.R.length ≤ d.R.length + 600 := by
  have hC := h.con
  by_cases h1 : min 17000 (Wl.hb d.S.length) < t.size
  · have e : Wl.snapshot (armed d n B) ws t = (92, armed d n B, ws) := by unfold Wl.snapshot Wl.powered; rw [if_neg (by simp [hC.gone]; exact hC.live), if_pos (show min 17000 (Wl.hb (armed d n B).S.length) < t.size from h1)]
    rw [e]; exact ⟨.no (by show (92 : Int) ≠ 0; decide) (by show (92 : Int) ≠ 2; decide) rfl rfl, by show d.R.length ≤ _; omega⟩
  have eA : ∀ d' : D.DS, d'.dead = false → d'.S = d.S → Wl.snapshot d' ws t = Wl.done ws (wsS ws t) (Wl.layW d' (Wl.first d.S.length (1 - ws.h.half)) (Wl.sects t.data.toList) (Wl.hdS ws.h t)) := fun d' hd hS => by
    unfold Wl.snapshot Wl.powered
    rw [hS, if_neg (by simp [hC.gone, hd]), if_neg h1, if_neg (by omega)]
    rfl
  have hhb := hb_le hC.ok
  have hused := hC.wok.used
  obtain ⟨g1, g2, g3⟩ := hC.wok.fits
  have hhf := hC.wok.half
  have hbe : Wl.hb d.S.length = Wl.hs d.S.length * 128 := rfl
  have htl : t.data.toList.length = t.size := (D.size_list t).symm
  have hf1 : Wl.first d.S.length 1 = 2 + Wl.hs d.S.length := by unfold Wl.first; omega
  have hf0 : Wl.first d.S.length 0 = 2 := by unfold Wl.first; omega
  have hhalf : ws.h.half = 0 ∨ ws.h.half = 1 := by omega
  have hK : (Wl.sects t.data.toList).length ≤ 200 ∧ (Wl.sects t.data.toList).length ≤ Wl.hs d.S.length := by rw [sects_len, htl]; unfold Wl.up; omega
  have hkl : Wl.first d.S.length (1 - ws.h.half) + (Wl.sects t.data.toList).length ≤ d.S.length := by
    rcases hhalf with e | e <;> rw [e]
    · show Wl.first d.S.length 1 + _ ≤ _; omega
    · show Wl.first d.S.length 0 + _ ≤ _; omega
  have hp2 : 2 ≤ Wl.first d.S.length (1 - ws.h.half) := by unfold Wl.first; omega
  have hXs := sects_128 t.data.toList
  have calm := hC.snapshot (t := t) (by omega) hn
  rw [eA d hC.live rfl] at calm
  obtain ⟨a1, a2, a3, a4, a5, a6⟩ := layW_calm hC.ok hC.live hC.calm hkl hXs (by omega) (Wl.hdS ws.h t)
  have hnum : (Wl.hdS ws.h t).num = ws.h.num + 1 := rfl
  have hi : (Wl.hdS ws.h t).num % 2 < 2 := Nat.mod_lt _ (by decide)
  have L := lay_armed (ws1 := wsS ws t) (s1 := t) (l1 := []) h (k := Wl.first d.S.length (1 - ws.h.half)) (X := Wl.sects t.data.toList) (hh := Wl.hdS ws.h t) hp2 hkl hXs hnum ?_ ?_ ?_ hnn hB0 hB1
  · have E := L.ends
    rw [eA (armed d n B) hC.live rfl]
    refine ⟨E, ?_⟩
    have e0 : (Wl.done ws (wsS ws t) (Wl.layW (armed d n B) (Wl.first d.S.length (1 - ws.h.half)) (Wl.sects t.data.toList) (Wl.hdS ws.h t))).2.1 = (Wl.layW (armed d n B) (Wl.first d.S.length (1 - ws.h.half)) (Wl.sects t.data.toList) (Wl.hdS ws.h t)).2 := rfl
    rw [e0]
    rcases L.ways with ⟨_, _, _, b4, _⟩ | ⟨_, _, b3, _, b5, _⟩ <;> omega
  · intro j b hj hb
    generalize hXX : Wl.sects t.data.toList = X at *
    have htl' : Wl.first d.S.length (1 - ws.h.half) + (X.take j).length ≤ d.S.length := by rw [List.length_take]; omega
    have hP := putS_len htl'
    have hjl : (X.take j).length = j := by rw [List.length_take]; omega
    refine half_stands hC.ok.s128 (D.layS_128 (putS_128 hC.ok.s128 fun x hx => hXs x (List.mem_of_mem_take hx)) (by rw [hP]; omega) (by rw [D.ext_size]; omega)) (by rw [D.layS_len, hP]) hused ?_ (half_keep htl' ?_)
    · rcases hhalf with e | e <;> rw [e]
      · rw [hf0]; omega
      · rw [hf1]; omega
    · rcases hhalf with e | e
      · refine .inl ?_
        rw [e]
        show Wl.first d.S.length 0 + _ ≤ Wl.first d.S.length 1 ∧ (Wl.first d.S.length 0 + _ ≤ Wl.first d.S.length 1 + j ∨ _)
        rw [hf0, hf1]; omega
      · refine .inr ?_
        rw [e, hjl]
        show Wl.first d.S.length 0 + j ≤ Wl.first d.S.length 1 ∧ Wl.first d.S.length 0 + j < Wl.first d.S.length 1
        rw [hf0, hf1]; omega
  · intro b hb
    generalize hXX : Wl.sects t.data.toList = X at *
    have hP := putS_len hkl
    refine half_stands hC.ok.s128 (D.layS_128 (putS_128 hC.ok.s128 hXs) (by rw [hP]; omega) (by rw [D.ext_size]; omega)) (by rw [D.layS_len, hP]) hused ?_ (half_keep hkl ?_)
    · rcases hhalf with e | e <;> rw [e]
      · rw [hf0]; omega
      · rw [hf1]; omega
    · rcases hhalf with e | e
      · refine .inl ?_
        rw [e]
        show Wl.first d.S.length 0 + _ ≤ Wl.first d.S.length 1 ∧ (_ ∨ (Wl.hdS ws.h t).num % 2 < Wl.first d.S.length 0)
        rw [hf0, hf1]; omega
      · refine .inr ?_
        rw [e]
        show Wl.first d.S.length 0 + X.length ≤ Wl.first d.S.length 1 ∧ (Wl.hdS ws.h t).num % 2 < Wl.first d.S.length 1
        rw [hf0, hf1]; omega
  · intro d' hS hok hd hl
    have e0 : (Wl.done ws (wsS ws t) (Wl.layW d (Wl.first d.S.length (1 - ws.h.half)) (Wl.sects t.data.toList) (Wl.hdS ws.h t))) = (0, (Wl.layW d (Wl.first d.S.length (1 - ws.h.half)) (Wl.sects t.data.toList) (Wl.hdS ws.h t)).2, wsS ws t) := by
      unfold Wl.done; rw [a1, if_pos rfl]
    rw [e0] at calm
    refine con_new calm.2.1 ?_ (hS.trans a2.symm) hok hd hl
    have hn2 : (ws.h.num + 1) % 2 ≠ ws.h.num % 2 := by omega
    have e1 : 1 - (wsS ws t).h.num % 2 = ws.h.num % 2 := by show 1 - (ws.h.num + 1) % 2 = _; omega
    have hlt3 : ws.h.num % 2 < 2 := Nat.mod_lt _ (by decide)
    rw [hS, e1, hnum, getD_set_far hn2, getD_put (by omega) (by omega), hC.head]
    exact oth_head (by show ws.h.num < ws.h.num + 1; omega) (by omega) (by show ws.h.num % 256 ≠ (ws.h.num + 1 + 1) % 256; omega)
end Go.Proofs.Ytojghjgbnnkldaa
end

section
namespace Go.Proofs.Ytojghjgbnnkldaa
open Go.RowKit Go.Shelf
open Wl (Hd WS Log)

/-- a slice of whole numbers that is read -/
structure Ri (w : World) (ad : Option Addr) (ab ao : Nat) (l : List Int) : Prop where
  at_ : 0 < l.length → ad = some ⟨ab, ao, none⟩
  cell : ∀ i (h : i < l.length), w.cell? ⟨ab, ao + i, none⟩ = some (.int .i64 l[i])
theorem Ri.lt {w : World} {ad : Option Addr} {ab ao : Nat} {l : List Int} (h : Ri w ad ab ao l) (h0 : 0 < l.length) : ab < w.heap.size := World.block_lt_of_cell? _ _ (h.cell 0 h0)
theorem tmod_nat (i n : Nat) (_ : 0 < n) : (i : Int).tmod (n : Int) = ((i % n : Nat) : Int) := by rw [Int.tmod_eq_emod_of_nonneg (by omega)]; omega
set_option maxHeartbeats 8000000 in
set_option maxRecDepth 8000 in
theorem walTells_walk {w : World} {z : Int} (hz : -9223372036854775808 ≤ z ∧ z ≤ 9223372036854775807) {ad : Option Addr} {tb tf cap : Nat} {T : List ByteArray} (hT : D.Rs w ad tb tf T) (hTl : T.length ≤ 1048576) (hTs : ∀ i (h : i < T.length), T[i].size ≤ 1048576) {adM : Option Addr} {mb mo capM : Nat} {M : List Int} (hM : Ri w adM mb mo M) (hMl : M.length ≤ 1048576) :
    Calls Try.prog 4 #[.int .i64 z, .slice ad T.length cap, .slice adM M.length capM] w fun e w' => e = .returned (.bool true) ∧ Below w.heap.size w w' := by
  obtain ⟨iS, hiS, zS0, zS1, zS2⟩ := info_parts D.Try.infoS
  by_cases hz1 : z < 1
  · clear hT
    go_enter Try.func4, Try.ntmps4
    go_wp2_with fail
    refine (fixed_any _).mono ?_
    rintro e w1 ⟨rfl, hB1⟩
    go_wp2_with fail
    go_ret
    exact ⟨rfl, hB1⟩
  by_cases hz2 : 512 < z
  · clear hT
    go_enter Try.func4, Try.ntmps4
    go_wp2_with fail
    refine (fixed_any _).mono ?_
    rintro e w1 ⟨rfl, hB1⟩
    go_wp2_with fail
    go_ret
    exact ⟨rfl, hB1⟩
  obtain ⟨half, rfl⟩ : ∃ half : Nat, z = (half : Int) := ⟨z.toNat, by omega⟩
  have HL := hide (laid_any half (by omega) (by omega) w)
  have HT := hide hT
  have HM := hide hM
  have HTs := hide hTs
  have HTl := hide hTl
  clear hT hz hM hTs
  go_enter Try.func4, Try.ntmps4
  go_wp2_with fail
  refine HL.out.mono ?_
  rintro e w1 ⟨b, W, d1, F1, rfl, hT1, -⟩
  have HK0 := hide (TlI.of hT1)
  clear hT1 HL
  go_wp2_with fail
  go_loopw [9, 10, 11] (fun a u t wr => ∃ (i : Nat) (v : Value) (s : ByteArray) (l : List ByteArray) (d : D.DS) (ws : WS) (F : Nat → Prop), v = u ∧ a = .string s ∧ i ≤ T.length ∧ t = .int .i64 (i : Int) ∧ Hid (TlI w b W v s l l d ws F i wr)) (fun _ _ t _ => T.length - (intOf t).toNat)
  case atStart => exact ⟨0, _, _, [], d1, _, F1, rfl, rfl, Nat.zero_le _, rfl, HK0⟩
  case round =>
    obtain ⟨i, v, s, l, d, ws, F, rfl, rfl, hi, rfl, HK⟩ := hrel
    clear HK0
    by_cases hil : i < T.length
    · have hii : (i : Int) < (T.length : Int) := by omega
      have hi1 : i < T.length := hil
      have hi2 : i + 1 ≤ T.length := hil
      have hat := HT.out.at_ (by omega)
      subst hat
      have hTb : tb < w.heap.size := HT.out.lt (by omega)
      have hTw : tb < wr.heap.size := Nat.lt_of_lt_of_le hTb HK.out.bel.size
      have HX1 : Hid (∀ V, Below w.heap.size w V → V.cell? ⟨tb, tf + i, none⟩ = some (.string T[i])) := hide fun V hV => (hV.cell (p := ⟨tb, tf + i, none⟩) hTb).trans (HT.out.cell i hil)
      have x1 := HX1.out wr HK.out.bel
      have hrs := HTs.out i hil
      have hRb := hide (HK.out.R (by have := HTl.out; omega))
      have hnum : ws.h.num < 1099511627776 := by have := HK.out.nm; have := HTl.out; omega
      generalize T[i] = r at *
      by_cases hM0 : 0 < M.length
      · have hmat := HM.out.at_ hM0
        subst hmat
        have hMb : mb < w.heap.size := HM.out.lt hM0
        have hMw : mb < wr.heap.size := Nat.lt_of_lt_of_le hMb HK.out.bel.size
        have hmx : max (1 : Int) (M.length : Int) = (M.length : Int) := by omega
        have hq : i % M.length < M.length := Nat.mod_lt _ hM0
        have htm := tmod_nat i M.length hM0
        have y1 : wr.cell? ⟨mb, mo + i % M.length, none⟩ = some (.int .i64 M[i % M.length]) := (HK.out.bel.cell (p := ⟨mb, mo + i % M.length, none⟩) hMb).trans (HM.out.cell _ hq)
        generalize M[i % M.length] = mk at *
        generalize i % M.length = q at *
        have hqi : (q : Int) < (M.length : Int) := by omega
        have hm0 : (M.length : Int) ≠ 0 := by omega
        have hm1 : (M.length : Int) ≠ -1 := by omega
        by_cases hmk : mk = 1
        · subst hmk
          have HA := hide (snapshot_any HK.out.dk HK.out.wm HK.out.nf HK.out.con.wok hRb.out r (by omega))
          have HOr := hide (HK.out.con.snapshot_or hnum r)
          generalize Wl.snapshot d ws r = X at *
          obtain ⟨xe, xd, xw⟩ := X
          simp only at HA HOr
          go_wp2_with fail
          refine HA.out.mono ?_
          rintro e w4 ⟨rfl, hW4, F4, hD4, hM4, hn4⟩
          rcases HOr.out with ⟨h0, hC, hh, hRr, hS⟩ | ⟨h0, hd, hws⟩
          · subst h0
            have HK4 := hide (HK.out.called hC (by rw [hh]; show ws.h.num + 1 ≤ _; have := HK.out.nm; omega) (by have := HK.out.rl; omega) hD4 hW4 hM4 hn4)
            have x2 := HX1.out w4 HK4.out.bel
            have hT4 : tb < w4.heap.size := Nat.lt_of_lt_of_le hTb HK4.out.bel.size
            have HK7 := hide HK4.out.fresh
            clear hW4 hD4 hM4 hC hh hRr hS HA HOr HK HX1
            have HO := hide (open_any HK7.out.dk)
            have hw9 := HK7.out.bel.size
            have HSI := hide (And.intro hi1 hi2)
            clear hi1 hi2
            go_wp2_with fail
            refine HO.out.mono ?_
            intro e w5 hP
            obtain ⟨hB5, Wv, ada, cpa, rfl, hWv, hWm, hOa, -⟩ := HK7.out.con.opens hP
            have HK5 := hide (HK7.out.below hB5)
            obtain ⟨-, ra, hRa⟩ := D.Rs.own hOa
            obtain ⟨adv, cpv, hvv⟩ := D.own_slice HK5.out.own
            have hOv := HK5.out.own
            rw [hvv] at hOv
            obtain ⟨-, rv, hRv⟩ := D.Rs.own hOv
            have hsm := HK5.out.small
            have HSm := hide (D.same_true (cap := cpa) (cap' := cpv) hRa hRv (by omega))
            have HWm := hide hWm
            clear hP hOa hB5 hRa hRv hOv hWm HO HK7
            simp only [List.length_nil] at hvv HSm
            injection hvv with hv1 hv2 hv3
            subst hv1
            subst hv3
            go_wp2_with fail
            refine HSm.out.mono ?_
            rintro e w6 ⟨rfl, n6, rfl⟩
            have HK6 := hide (HK5.out.below (D.below_drewN w5 n6))
            have HW6 := hide (HWm.out.below (D.below_drewN w5 n6))
            generalize w5.drewN n6 = w6 at *
            have HRec := hide (records_any HK6.out.wm)
            rw [HK6.out.con.rc] at HRec
            simp only [List.length_nil] at HRec
            skip
            clear HSm HK5 HWm
            go_wp2_with fail
            refine HRec.out.mono ?_
            rintro e w7 ⟨rfl, rfl⟩
            have HR1 := hide (room_any HK6.out.dk HW6.out HK6.out.okv)
            clear HRec
            go_wp2_with fail
            refine HR1.out.mono ?_
            rintro e w8 ⟨rfl, hB8⟩
            have HK8 := hide (HK6.out.below hB8)
            have HR2 := hide (room_any HK8.out.dk HK8.out.wm HK8.out.con.wok)
            have bn : ((Wl.room xd.S.length xw.h : Int) != (Wl.room xd.S.length xw.h : Int)) = false := by simp
            clear hB8 HR1 HK6 HW6
            go_wp2_with fail
            refine HR2.out.mono ?_
            rintro e w9 ⟨rfl, hB9⟩
            have HK9 := hide (HK8.out.below hB9)
            clear hB9 HR2 HK8
            go_wp2_with fail
            go_roundw
            case rel => exact ⟨i + 1, _, r, ([] : List ByteArray), xd, xw, F4, rfl, rfl, HSI.out.2, rfl, HK9⟩
            case measure => simp only [intOf]; have := HSI.out.1; omega
          · have bx : (xe == 0) = false := by simpa using h0
            subst hd hws
            have HK4 := hide (HK.out.called HK.out.con (by have := HK.out.nm; omega) (by have := HK.out.rl; omega) hD4 hW4 hM4 hn4)
            clear hW4 hD4 hM4 HA HOr h0 HK HX1
            have HO := hide (open_any HK4.out.dk)
            have hw9 := HK4.out.bel.size
            have HSI := hide (And.intro hi1 hi2)
            clear hi1 hi2
            go_wp2_with fail
            refine HO.out.mono ?_
            intro e w5 hP
            obtain ⟨hB5, Wv, ada, cpa, rfl, hWv, hWm, hOa, -⟩ := HK4.out.con.opens hP
            have HK5 := hide (HK4.out.below hB5)
            obtain ⟨-, ra, hRa⟩ := D.Rs.own hOa
            obtain ⟨adv, cpv, hvv⟩ := D.own_slice HK5.out.own
            have hOv := HK5.out.own
            rw [hvv] at hOv
            obtain ⟨-, rv, hRv⟩ := D.Rs.own hOv
            have hsm := HK5.out.small
            have HSm := hide (D.same_true (cap := cpa) (cap' := cpv) hRa hRv (by omega))
            have HWm := hide hWm
            clear hP hOa hB5 hRa hRv hOv hWm HO HK4
            subst hvv
            go_wp2_with fail
            refine HSm.out.mono ?_
            rintro e w6 ⟨rfl, n6, rfl⟩
            have HK6 := hide (HK5.out.below (D.below_drewN w5 n6))
            have HW6 := hide (HWm.out.below (D.below_drewN w5 n6))
            generalize w5.drewN n6 = w6 at *
            have HRec := hide (records_any HK6.out.wm)
            rw [HK6.out.con.rc] at HRec
            skip
            have bl : ((l.length : Int) != (l.length : Int)) = false := by simp
            clear HSm HK5 HWm
            go_wp2_with fail
            refine HRec.out.mono ?_
            rintro e w7 ⟨rfl, rfl⟩
            have HR1 := hide (room_any HK6.out.dk HW6.out HK6.out.okv)
            clear HRec
            go_wp2_with fail
            refine HR1.out.mono ?_
            rintro e w8 ⟨rfl, hB8⟩
            have HK8 := hide (HK6.out.below hB8)
            have HR2 := hide (room_any HK8.out.dk HK8.out.wm HK8.out.con.wok)
            have bn : ((Wl.room xd.S.length xw.h : Int) != (Wl.room xd.S.length xw.h : Int)) = false := by simp
            clear hB8 HR1 HK6 HW6
            go_wp2_with fail
            refine HR2.out.mono ?_
            rintro e w9 ⟨rfl, hB9⟩
            have HK9 := hide (HK8.out.below hB9)
            clear hB9 HR2 HK8
            go_wp2_with fail
            go_roundw
            case rel => exact ⟨i + 1, _, s, l, xd, xw, F4, rfl, rfl, HSI.out.2, rfl, HK9⟩
            case measure => simp only [intOf]; have := HSI.out.1; omega
        · have dmk : (mk == 1) = false := by simpa using hmk
          have HA := hide (append_any HK.out.dk HK.out.wm HK.out.nf HK.out.con.wok hRb.out r)
          have HOr := hide (HK.out.con.append_or hnum r)
          generalize Wl.append d ws r = X at *
          obtain ⟨xe, xd, xw⟩ := X
          simp only at HA HOr
          go_wp2_with fail
          refine HA.out.mono ?_
          rintro e w4 ⟨rfl, hW4, F4, hD4, hM4, hn4⟩
          rcases HOr.out with ⟨h0, hC, hh, hRr, hS⟩ | ⟨h0, hd, hws⟩
          · subst h0
            have HK4 := hide (HK.out.called hC (by rw [hh]; show ws.h.num + 1 ≤ _; have := HK.out.nm; omega) (by have := HK.out.rl; omega) hD4 hW4 hM4 hn4)
            have x2 := HX1.out w4 HK4.out.bel
            have hT4 : tb < w4.heap.size := Nat.lt_of_lt_of_le hTb HK4.out.bel.size
            have hsm0 := HK.out.small
            clear hW4 hD4 hM4 hC hh hRr hS HA HOr HK HX1
            go_wp2_with (at_builtin; refine wpList_append_own _ rfl _ _ 30 rfl w.heap.size 9 iS (.string ByteArray.empty) 1 16 Try.underlying30 hiS zS0 zS1 zS2 rfl (by decide) v l.length _ rfl (HK4.out.own.alloc _) ⟨w4.heap.size, 0, none⟩ 1 1 [.string r] rfl rfl (one_new _ _ _) (by intro u hu; simp at hu; subst hu; rfl) (by unfold maxLen; omega) (by omega) (by rw [World.size_alloc]; have := HK4.out.bel.size; omega) ?_; intro va wa howna hgrowa hnila)
            have HK7 : Hid (TlI w b W va s (l ++ [r]) (l ++ [r]) xd xw F4 (i + 1) wa) := hide (HK4.out.grown (below_alloc _ _) hgrowa (by rw [List.length_append, List.length_singleton, List.map_append]; exact howna))
            clear howna hgrowa hnila HK4
            obtain ⟨l2, hl2⟩ : ∃ l2, l ++ [r] = l2 := ⟨_, rfl⟩
            rw [hl2] at HK7
            clear hl2
            have HO := hide (open_any HK7.out.dk)
            have hw9 := HK7.out.bel.size
            have HSI := hide (And.intro hi1 hi2)
            clear hi1 hi2
            skip
            refine HO.out.mono ?_
            intro e w5 hP
            obtain ⟨hB5, Wv, ada, cpa, rfl, hWv, hWm, hOa, -⟩ := HK7.out.con.opens hP
            have HK5 := hide (HK7.out.below hB5)
            obtain ⟨-, ra, hRa⟩ := D.Rs.own hOa
            obtain ⟨adv, cpv, hvv⟩ := D.own_slice HK5.out.own
            have hOv := HK5.out.own
            rw [hvv] at hOv
            obtain ⟨-, rv, hRv⟩ := D.Rs.own hOv
            have hsm := HK5.out.small
            have HSm := hide (D.same_true (cap := cpa) (cap' := cpv) hRa hRv (by omega))
            have HWm := hide hWm
            clear hP hOa hB5 hRa hRv hOv hWm HO HK7
            subst hvv
            go_wp2_with fail
            refine HSm.out.mono ?_
            rintro e w6 ⟨rfl, n6, rfl⟩
            have HK6 := hide (HK5.out.below (D.below_drewN w5 n6))
            have HW6 := hide (HWm.out.below (D.below_drewN w5 n6))
            generalize w5.drewN n6 = w6 at *
            have HRec := hide (records_any HK6.out.wm)
            rw [HK6.out.con.rc] at HRec
            skip
            have bl : ((l2.length : Int) != (l2.length : Int)) = false := by simp
            clear HSm HK5 HWm
            go_wp2_with fail
            refine HRec.out.mono ?_
            rintro e w7 ⟨rfl, rfl⟩
            have HR1 := hide (room_any HK6.out.dk HW6.out HK6.out.okv)
            clear HRec
            go_wp2_with fail
            refine HR1.out.mono ?_
            rintro e w8 ⟨rfl, hB8⟩
            have HK8 := hide (HK6.out.below hB8)
            have HR2 := hide (room_any HK8.out.dk HK8.out.wm HK8.out.con.wok)
            have bn : ((Wl.room xd.S.length xw.h : Int) != (Wl.room xd.S.length xw.h : Int)) = false := by simp
            clear hB8 HR1 HK6 HW6
            go_wp2_with fail
            refine HR2.out.mono ?_
            rintro e w9 ⟨rfl, hB9⟩
            have HK9 := hide (HK8.out.below hB9)
            clear hB9 HR2 HK8
            go_wp2_with fail
            go_roundw
            case rel => exact ⟨i + 1, _, s, l2, xd, xw, F4, rfl, rfl, HSI.out.2, rfl, HK9⟩
            case measure => simp only [intOf]; have := HSI.out.1; omega
          · have bx : (xe == 0) = false := by simpa using h0
            subst hd hws
            have HK4 := hide (HK.out.called HK.out.con (by have := HK.out.nm; omega) (by have := HK.out.rl; omega) hD4 hW4 hM4 hn4)
            clear hW4 hD4 hM4 HA HOr h0 HK HX1
            have HO := hide (open_any HK4.out.dk)
            have hw9 := HK4.out.bel.size
            have HSI := hide (And.intro hi1 hi2)
            clear hi1 hi2
            go_wp2_with fail
            refine HO.out.mono ?_
            intro e w5 hP
            obtain ⟨hB5, Wv, ada, cpa, rfl, hWv, hWm, hOa, -⟩ := HK4.out.con.opens hP
            have HK5 := hide (HK4.out.below hB5)
            obtain ⟨-, ra, hRa⟩ := D.Rs.own hOa
            obtain ⟨adv, cpv, hvv⟩ := D.own_slice HK5.out.own
            have hOv := HK5.out.own
            rw [hvv] at hOv
            obtain ⟨-, rv, hRv⟩ := D.Rs.own hOv
            have hsm := HK5.out.small
            have HSm := hide (D.same_true (cap := cpa) (cap' := cpv) hRa hRv (by omega))
            have HWm := hide hWm
            clear hP hOa hB5 hRa hRv hOv hWm HO HK4
            subst hvv
            go_wp2_with fail
            refine HSm.out.mono ?_
            rintro e w6 ⟨rfl, n6, rfl⟩
            have HK6 := hide (HK5.out.below (D.below_drewN w5 n6))
            have HW6 := hide (HWm.out.below (D.below_drewN w5 n6))
            generalize w5.drewN n6 = w6 at *
            have HRec := hide (records_any HK6.out.wm)
            rw [HK6.out.con.rc] at HRec
            skip
            have bl : ((l.length : Int) != (l.length : Int)) = false := by simp
            clear HSm HK5 HWm
            go_wp2_with fail
            refine HRec.out.mono ?_
            rintro e w7 ⟨rfl, rfl⟩
            have HR1 := hide (room_any HK6.out.dk HW6.out HK6.out.okv)
            clear HRec
            go_wp2_with fail
            refine HR1.out.mono ?_
            rintro e w8 ⟨rfl, hB8⟩
            have HK8 := hide (HK6.out.below hB8)
            have HR2 := hide (room_any HK8.out.dk HK8.out.wm HK8.out.con.wok)
            have bn : ((Wl.room xd.S.length xw.h : Int) != (Wl.room xd.S.length xw.h : Int)) = false := by simp
            clear hB8 HR1 HK6 HW6
            go_wp2_with fail
            refine HR2.out.mono ?_
            rintro e w9 ⟨rfl, hB9⟩
            have HK9 := hide (HK8.out.below hB9)
            clear hB9 HR2 HK8
            go_wp2_with fail
            go_roundw
            case rel => exact ⟨i + 1, _, s, l, xd, xw, F4, rfl, rfl, HSI.out.2, rfl, HK9⟩
            case measure => simp only [intOf]; have := HSI.out.1; omega
      · have hM1 : ¬ 0 < (M.length : Int) := by omega
        have HA := hide (append_any HK.out.dk HK.out.wm HK.out.nf HK.out.con.wok hRb.out r)
        have HOr := hide (HK.out.con.append_or hnum r)
        generalize Wl.append d ws r = X at *
        obtain ⟨xe, xd, xw⟩ := X
        simp only at HA HOr
        go_wp2_with fail
        refine HA.out.mono ?_
        rintro e w4 ⟨rfl, hW4, F4, hD4, hM4, hn4⟩
        rcases HOr.out with ⟨h0, hC, hh, hRr, hS⟩ | ⟨h0, hd, hws⟩
        · subst h0
          have HK4 := hide (HK.out.called hC (by rw [hh]; show ws.h.num + 1 ≤ _; have := HK.out.nm; omega) (by have := HK.out.rl; omega) hD4 hW4 hM4 hn4)
          have x2 := HX1.out w4 HK4.out.bel
          have hT4 : tb < w4.heap.size := Nat.lt_of_lt_of_le hTb HK4.out.bel.size
          have hsm0 := HK.out.small
          clear hW4 hD4 hM4 hC hh hRr hS HA HOr HK HX1
          go_wp2_with (at_builtin; refine wpList_append_own _ rfl _ _ 30 rfl w.heap.size 9 iS (.string ByteArray.empty) 1 16 Try.underlying30 hiS zS0 zS1 zS2 rfl (by decide) v l.length _ rfl (HK4.out.own.alloc _) ⟨w4.heap.size, 0, none⟩ 1 1 [.string r] rfl rfl (one_new _ _ _) (by intro u hu; simp at hu; subst hu; rfl) (by unfold maxLen; omega) (by omega) (by rw [World.size_alloc]; have := HK4.out.bel.size; omega) ?_; intro va wa howna hgrowa hnila)
          have HK7 : Hid (TlI w b W va s (l ++ [r]) (l ++ [r]) xd xw F4 (i + 1) wa) := hide (HK4.out.grown (below_alloc _ _) hgrowa (by rw [List.length_append, List.length_singleton, List.map_append]; exact howna))
          clear howna hgrowa hnila HK4
          obtain ⟨l2, hl2⟩ : ∃ l2, l ++ [r] = l2 := ⟨_, rfl⟩
          rw [hl2] at HK7
          clear hl2
          have HO := hide (open_any HK7.out.dk)
          have hw9 := HK7.out.bel.size
          have HSI := hide (And.intro hi1 hi2)
          clear hi1 hi2
          skip
          refine HO.out.mono ?_
          intro e w5 hP
          obtain ⟨hB5, Wv, ada, cpa, rfl, hWv, hWm, hOa, -⟩ := HK7.out.con.opens hP
          have HK5 := hide (HK7.out.below hB5)
          obtain ⟨-, ra, hRa⟩ := D.Rs.own hOa
          obtain ⟨adv, cpv, hvv⟩ := D.own_slice HK5.out.own
          have hOv := HK5.out.own
          rw [hvv] at hOv
          obtain ⟨-, rv, hRv⟩ := D.Rs.own hOv
          have hsm := HK5.out.small
          have HSm := hide (D.same_true (cap := cpa) (cap' := cpv) hRa hRv (by omega))
          have HWm := hide hWm
          clear hP hOa hB5 hRa hRv hOv hWm HO HK7
          subst hvv
          go_wp2_with fail
          refine HSm.out.mono ?_
          rintro e w6 ⟨rfl, n6, rfl⟩
          have HK6 := hide (HK5.out.below (D.below_drewN w5 n6))
          have HW6 := hide (HWm.out.below (D.below_drewN w5 n6))
          generalize w5.drewN n6 = w6 at *
          have HRec := hide (records_any HK6.out.wm)
          rw [HK6.out.con.rc] at HRec
          skip
          have bl : ((l2.length : Int) != (l2.length : Int)) = false := by simp
          clear HSm HK5 HWm
          go_wp2_with fail
          refine HRec.out.mono ?_
          rintro e w7 ⟨rfl, rfl⟩
          have HR1 := hide (room_any HK6.out.dk HW6.out HK6.out.okv)
          clear HRec
          go_wp2_with fail
          refine HR1.out.mono ?_
          rintro e w8 ⟨rfl, hB8⟩
          have HK8 := hide (HK6.out.below hB8)
          have HR2 := hide (room_any HK8.out.dk HK8.out.wm HK8.out.con.wok)
          have bn : ((Wl.room xd.S.length xw.h : Int) != (Wl.room xd.S.length xw.h : Int)) = false := by simp
          clear hB8 HR1 HK6 HW6
          go_wp2_with fail
          refine HR2.out.mono ?_
          rintro e w9 ⟨rfl, hB9⟩
          have HK9 := hide (HK8.out.below hB9)
          clear hB9 HR2 HK8
          go_wp2_with fail
          go_roundw
          case rel => exact ⟨i + 1, _, s, l2, xd, xw, F4, rfl, rfl, HSI.out.2, rfl, HK9⟩
          case measure => simp only [intOf]; have := HSI.out.1; omega
        · have bx : (xe == 0) = false := by simpa using h0
          subst hd hws
          have HK4 := hide (HK.out.called HK.out.con (by have := HK.out.nm; omega) (by have := HK.out.rl; omega) hD4 hW4 hM4 hn4)
          clear hW4 hD4 hM4 HA HOr h0 HK HX1
          have HO := hide (open_any HK4.out.dk)
          have hw9 := HK4.out.bel.size
          have HSI := hide (And.intro hi1 hi2)
          clear hi1 hi2
          go_wp2_with fail
          refine HO.out.mono ?_
          intro e w5 hP
          obtain ⟨hB5, Wv, ada, cpa, rfl, hWv, hWm, hOa, -⟩ := HK4.out.con.opens hP
          have HK5 := hide (HK4.out.below hB5)
          obtain ⟨-, ra, hRa⟩ := D.Rs.own hOa
          obtain ⟨adv, cpv, hvv⟩ := D.own_slice HK5.out.own
          have hOv := HK5.out.own
          rw [hvv] at hOv
          obtain ⟨-, rv, hRv⟩ := D.Rs.own hOv
          have hsm := HK5.out.small
          have HSm := hide (D.same_true (cap := cpa) (cap' := cpv) hRa hRv (by omega))
          have HWm := hide hWm
          clear hP hOa hB5 hRa hRv hOv hWm HO HK4
          subst hvv
          go_wp2_with fail
          refine HSm.out.mono ?_
          rintro e w6 ⟨rfl, n6, rfl⟩
          have HK6 := hide (HK5.out.below (D.below_drewN w5 n6))
          have HW6 := hide (HWm.out.below (D.below_drewN w5 n6))
          generalize w5.drewN n6 = w6 at *
          have HRec := hide (records_any HK6.out.wm)
          rw [HK6.out.con.rc] at HRec
          skip
          have bl : ((l.length : Int) != (l.length : Int)) = false := by simp
          clear HSm HK5 HWm
          go_wp2_with fail
          refine HRec.out.mono ?_
          rintro e w7 ⟨rfl, rfl⟩
          have HR1 := hide (room_any HK6.out.dk HW6.out HK6.out.okv)
          clear HRec
          go_wp2_with fail
          refine HR1.out.mono ?_
          rintro e w8 ⟨rfl, hB8⟩
          have HK8 := hide (HK6.out.below hB8)
          have HR2 := hide (room_any HK8.out.dk HK8.out.wm HK8.out.con.wok)
          have bn : ((Wl.room xd.S.length xw.h : Int) != (Wl.room xd.S.length xw.h : Int)) = false := by simp
          clear hB8 HR1 HK6 HW6
          go_wp2_with fail
          refine HR2.out.mono ?_
          rintro e w9 ⟨rfl, hB9⟩
          have HK9 := hide (HK8.out.below hB9)
          clear hB9 HR2 HK8
          go_wp2_with fail
          go_roundw
          case rel => exact ⟨i + 1, _, s, l, xd, xw, F4, rfl, rfl, HSI.out.2, rfl, HK9⟩
          case measure => simp only [intOf]; have := HSI.out.1; omega
    · have hii : ¬ (i : Int) < (T.length : Int) := by omega
      have HB := hide HK.out.bel
      clear HK
      go_wp2_with fail
      refine (fixed_any _).mono ?_
      rintro e w2 ⟨rfl, hB2⟩
      have HB2 := hide (HB.out.trans (hB2.mono HB.out.size))
      clear hB2
      go_wp2_with fail
      go_ret
      exact ⟨rfl, HB2.out⟩
end Go.Proofs.Ytojghjgbnnkldaa
end
