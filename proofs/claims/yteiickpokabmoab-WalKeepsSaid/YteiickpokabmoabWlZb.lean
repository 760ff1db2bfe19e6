import Derived.Test.YteiickpokabmoabWlZa
namespace Go.Proofs.Yteiickpokabmoab
open Go.RowKit Go.Shelf
open Wl (Hd WS Log)

theorem getD_set_self {S : List ByteArray} {k : Nat} (hk : k < S.length) (v : ByteArray) : (S.set k v).getD k ByteArray.empty = v := by
  rw [List.getD_eq_getElem?_getD, List.getElem?_set_self hk]; rfl
theorem getD_set_far {S : List ByteArray} {k j : Nat} (h : k ≠ j) (v : ByteArray) : (S.set k v).getD j ByteArray.empty = S.getD j ByteArray.empty := by
  rw [List.getD_eq_getElem?_getD, List.getElem?_set_ne h, List.getD_eq_getElem?_getD]
theorem getD_put {S : List ByteArray} {k j : Nat} {l : List ByteArray} (h : j < k) (hk : k ≤ S.length) : (putS S k l).getD j ByteArray.empty = S.getD j ByteArray.empty := by
  unfold putS
  rw [List.getD_eq_getElem?_getD, List.getElem?_append_left (by rw [List.length_take]; omega), List.getElem?_take_of_lt h, List.getD_eq_getElem?_getD]
/-- a record that is taken -/
theorem Con.append {d : D.DS} {ws : WS} {s : ByteArray} {l : List ByteArray} (h : Con d ws s l) {r : ByteArray} (h1 : 1 ≤ r.size) (h2 : r.size ≤ 2048) (hr : r.size ≤ Wl.room d.S.length ws.h) (hn : ws.h.num < 1099511627776) :
    (Wl.append d ws r).1 = 0 ∧ Con (Wl.append d ws r).2.1 (Wl.append d ws r).2.2 s (l ++ [r]) ∧ (Wl.append d ws r).2.2.h = Wl.hdA ws.h r ∧ (Wl.append d ws r).2.1.R.length ≤ d.R.length + 600 ∧ (Wl.append d ws r).2.1.S.length = d.S.length := by
  have hfit := room_fit h1 hr
  have hfl := frame_len r
  have hpos := Pk.enc_pos r.size
  have hused := h.wok.used
  have hhb := hb_le h.ok
  obtain ⟨g1, g2, g3⟩ := h.wok.fits
  have hhf := h.wok.half
  have h8 : ws.h.half * Wl.hs d.S.length ≤ Wl.hs d.S.length := by
    have := Nat.mul_le_mul_right (Wl.hs d.S.length) (show ws.h.half ≤ 1 by omega)
    omega
  have hbe : Wl.hb d.S.length = Wl.hs d.S.length * 128 := rfl
  have hm : ws.h.used % 128 < 128 := Nat.mod_lt _ (by decide)
  have hpl : Wl.place d ws.h = Wl.first d.S.length ws.h.half + ws.h.used / 128 := rfl
  have hfi : Wl.first d.S.length ws.h.half = 2 + ws.h.half * Wl.hs d.S.length := rfl
  have hplt : Wl.place d ws.h < d.S.length := by rw [hpl, hfi]; omega
  have hsec8 : (d.S.getD (Wl.place d ws.h) ByteArray.empty).size = 128 := by
    rw [List.getD_eq_getElem?_getD, List.getElem?_eq_getElem hplt]; exact h.ok.s128.get _
  have hal : (Wl.ahead d ws.h).length = ws.h.used % 128 := by
    unfold Wl.ahead; rw [List.length_take, ← D.size_list, hsec8]; omega
  have hup : Wl.up (Wl.ahead d ws.h ++ Wl.frame r).length ≤ 20 ∧ Wl.place d ws.h + Wl.up (Wl.ahead d ws.h ++ Wl.frame r).length ≤ d.S.length := by
    have henc := Pk.enc_ten (n := r.size) (by omega)
    rw [List.length_append, hal, hfl, hpl, hfi]; unfold Wl.up; omega
  have hkl : Wl.place d ws.h + (Wl.sects (Wl.ahead d ws.h ++ Wl.frame r)).length ≤ d.S.length := by rw [sects_len]; exact hup.2
  obtain ⟨a1, a2, a3, a4, a5, a6⟩ := layW_calm h.ok h.live h.calm hkl (sects_128 _) (by omega) (Wl.hdA ws.h r)
  have eA : Wl.append d ws r = Wl.done ws ⟨Wl.hdA ws.h r, ws.rc + 1, ws.gone⟩ (Wl.layW d (Wl.place d ws.h) (Wl.sects (Wl.ahead d ws.h ++ Wl.frame r)) (Wl.hdA ws.h r)) := by
    unfold Wl.append Wl.powered
    rw [if_neg (by simp [h.gone, h.live]), if_neg (by omega), if_neg (by omega), if_neg (by omega)]
  rw [sects_len] at a6
  generalize Wl.layW d (Wl.place d ws.h) (Wl.sects (Wl.ahead d ws.h ++ Wl.frame r)) (Wl.hdA ws.h r) = X at *
  obtain ⟨x0, xd⟩ := X
  simp only at a1 a2 a3 a4 a5 a6
  subst a1
  have eA2 : Wl.append d ws r = (0, xd, ⟨Wl.hdA ws.h r, ws.rc + 1, ws.gone⟩) := by rw [eA]; unfold Wl.done; simp
  rw [eA2]
  have hSl : xd.S.length = d.S.length := by rw [a2, List.length_set, putS_len hkl]
  have hn2 : (ws.h.num + 1) % 2 ≠ ws.h.num % 2 := by omega
  have hnum : (Wl.hdA ws.h r).num = ws.h.num + 1 := rfl
  have hlt2 : (ws.h.num + 1) % 2 < 2 := Nat.mod_lt _ (by decide)
  have hlt3 : ws.h.num % 2 < 2 := Nat.mod_lt _ (by decide)
  have hp2 : 2 ≤ Wl.place d ws.h := by rw [hpl, hfi]; omega
  have hst : Wl.stands xd.S (Wl.hdA ws.h r) = s.data.toList ++ frames (l ++ [r]) := by
    have e := stands_put h.ok.s128 (f := Wl.first d.S.length ws.h.half) (used := ws.h.used) (FR := Wl.frame r) (i := (ws.h.num + 1) % 2) (v := Wl.headB (Wl.hdA ws.h r)) (by rw [← hpl]; exact hplt) (by rw [hfi]; omega)
    unfold Wl.stands
    rw [hSl, a2, hnum]
    have eu : (Wl.hdA ws.h r).used = ws.h.used + (Wl.frame r).length := by show ws.h.sn + (ws.h.lg + _) = ws.h.sn + ws.h.lg + _; omega
    rw [eu]
    refine e.trans ?_
    rw [frames_snoc, ← List.append_assoc, ← h.st]
    rfl
  refine ⟨rfl, ⟨a3, ⟨by rw [hSl]; exact h.wok.fits, by show ws.h.num + 1 ≤ _; omega, hhf, h.wok.sn, ?_, ?_⟩, a4, a5, ?_, by show 1 ≤ ws.h.num + 1; omega, ?_, hst, h.sn, ?_, ?_, h.gone⟩, rfl, ?_, hSl⟩
  · show (Wl.hdA ws.h r).used ≤ Wl.hb xd.S.length
    rw [hSl]
    show ws.h.sn + (ws.h.lg + _) ≤ _
    have : ws.h.used = ws.h.sn + ws.h.lg := rfl
    omega
  · show ws.rc + 1 ≤ 65536
    have ht := frames_two (l ++ [r]) (fun x hx => by
      rcases List.mem_append.mp hx with hx | hx
      · exact h.recs x hx
      · rw [List.mem_singleton.mp hx]; exact ⟨h1, h2⟩)
    have hl := congrArg List.length hst
    rw [List.length_append] at hl
    have hle : (Wl.stands xd.S (Wl.hdA ws.h r)).length ≤ (Wl.hdA ws.h r).used := by unfold Wl.stands; rw [List.length_take]; exact Nat.min_le_left _ _
    have eu : (Wl.hdA ws.h r).used = ws.h.used + (Wl.frame r).length := by show ws.h.sn + (ws.h.lg + _) = ws.h.sn + ws.h.lg + _; omega
    rw [List.length_append, List.length_singleton] at ht
    have := h.rc
    omega
  · show xd.S.getD ((ws.h.num + 1) % 2) ByteArray.empty = _
    rw [a2, hnum]
    exact getD_set_self (by rw [putS_len hkl]; omega) _
  · intro L hL
    have hp := logOf_parse hL
    have e1 : 1 - (Wl.hdA ws.h r).num % 2 = ws.h.num % 2 := by rw [hnum]; omega
    rw [e1, a2, hnum, getD_set_far hn2, getD_put (by omega) (by omega), h.head, parse_head ws.h (by omega) (by omega) (by have := h.wok.sn; omega) (by have : ws.h.used = ws.h.sn + ws.h.lg := rfl; omega)] at hp
    show L.h.num < ws.h.num + 1
    rw [hp]; omega
  · intro x hx
    rcases List.mem_append.mp hx with hx | hx
    · exact h.recs x hx
    · rw [List.mem_singleton.mp hx]; exact ⟨h1, h2⟩
  · show ws.rc + 1 = (l ++ [r]).length
    rw [List.length_append, List.length_singleton, h.rc]
  · show xd.R.length ≤ _; rw [a6]; omega
end Go.Proofs.Yteiickpokabmoab
