import Derived.Test.YtojghjgbnnkldaaMgAR
import Derived.Test.YtojghjgbnnkldaaMgAI

section
namespace Go.Proofs.Ytojghjgbnnkldaa
open Go.RowKit Go.Shelf
open Wl (Hd WS Log)

/-- sectors put in a row -/
def putS (S : List ByteArray) (k : Nat) (l : List ByteArray) : List ByteArray := S.take k ++ (l ++ S.drop (k + l.length))
theorem putS_nil (S : List ByteArray) (k : Nat) : putS S k [] = S := by simp [putS]
theorem putS_len {S : List ByteArray} {k : Nat} {l : List ByteArray} (h : k + l.length ≤ S.length) : (putS S k l).length = S.length := by simp [putS]; omega
theorem putS_cons {S : List ByteArray} {k : Nat} {s : ByteArray} {l : List ByteArray} (h : k + (s :: l).length ≤ S.length) : putS (S.set k s) (k + 1) l = putS S k (s :: l) := by
  rw [List.length_cons] at h
  unfold putS
  rw [List.length_cons, List.drop_set_of_lt (by omega), List.take_set, show k + 1 + l.length = k + (l.length + 1) by omega]
  have : (S.take (k + 1)).set k s = S.take k ++ [s] := by
    rw [List.take_succ_eq_append_getElem (by omega), List.set_append_right _ _ (by simp; omega)]
    simp [show k - min k S.length = 0 by omega]
  rw [this]; simp
theorem lay_all {S : List ByteArray} (h8 : D.A128 S) {k : Nat} {s : ByteArray} (hk : k < S.length) (hs : s.size = 128) : D.layS S k s = S.set k s := by
  unfold D.layS
  rw [D.laid_all (by rw [hs, List.getD_eq_getElem?_getD, List.getElem?_eq_getElem hk]; exact (h8.get hk).symm)]
theorem write_calm {d : D.DS} (h : d.ok) (hd : d.dead = false) (hl : d.left = 0) {k : Nat} (hk : k < d.S.length) {s : ByteArray} (hs : s.size = 128) : d.write (k : Int) s = (0, { d with S := d.S.set k s, R := d.R ++ [⟨k, s⟩] }) := by
  rw [D.DS.write_all hd (by omega) hs (by omega), Int.toNat_natCast, lay_all h.s128 hk hs, hl]
  rfl
theorem wsec_calm (l : List ByteArray) : ∀ (d : D.DS) (k : Nat), d.ok → d.dead = false → d.left = 0 → k + l.length ≤ d.S.length → (∀ s ∈ l, s.size = 128) →
    (Wl.wsec d k l).1 = 0 ∧ (Wl.wsec d k l).2.S = putS d.S k l ∧ (Wl.wsec d k l).2.ok ∧ (Wl.wsec d k l).2.dead = false ∧ (Wl.wsec d k l).2.left = 0 ∧ (Wl.wsec d k l).2.R.length = d.R.length + l.length := by
  induction l with
  | nil => intro d k h hd hl _ _; exact ⟨rfl, (putS_nil _ _).symm, h, hd, hl, rfl⟩
  | cons s l ih =>
    intro d k h hd hl hk h8
    have hk' := hk
    rw [List.length_cons] at hk'
    have e := write_calm h hd hl (k := k) (by omega) (h8 s List.mem_cons_self)
    have hok := D.DS.write_ok h (k : Int) s
    rw [e] at hok
    rw [wsec_cons, e, if_neg (by simp)]
    obtain ⟨a1, a2, a3, a4, a5, a6⟩ := ih { d with S := d.S.set k s, R := d.R ++ [⟨k, s⟩] } (k + 1) hok hd hl (by show k + 1 + l.length ≤ (d.S.set k s).length; rw [List.length_set]; omega) (fun x hx => h8 x (List.mem_cons_of_mem _ hx))
    refine ⟨a1, ?_, a3, a4, a5, ?_⟩
    · rw [a2]; exact putS_cons hk
    · rw [a6]; show (d.R ++ [_]).length + l.length = _; simp; omega
theorem layW_calm {d : D.DS} (h : d.ok) (hd : d.dead = false) (hl : d.left = 0) {k : Nat} {l : List ByteArray} (hk : k + l.length ≤ d.S.length) (h8 : ∀ s ∈ l, s.size = 128) (h2 : 2 ≤ d.S.length) (hh : Hd) :
    (Wl.layW d k l hh).1 = 0 ∧ (Wl.layW d k l hh).2.S = (putS d.S k l).set (hh.num % 2) (Wl.headB hh) ∧ (Wl.layW d k l hh).2.ok ∧ (Wl.layW d k l hh).2.dead = false ∧ (Wl.layW d k l hh).2.left = 0 ∧ (Wl.layW d k l hh).2.R.length = d.R.length + l.length + 1 := by
  obtain ⟨a1, a2, a3, a4, a5, a6⟩ := wsec_calm l d k h hd hl hk h8
  unfold Wl.layW
  rw [if_neg (by simp [a1])]
  have hlt : hh.num % 2 < (Wl.wsec d k l).2.S.length := by rw [a2, putS_len hk]; have := Nat.mod_lt hh.num (show 0 < 2 by decide); omega
  have e := write_calm a3 a4 a5 hlt (Wl.headB_size hh)
  have hok := D.DS.write_ok a3 ((hh.num % 2 : Nat) : Int) (Wl.headB hh)
  rw [e] at hok ⊢
  refine ⟨rfl, ?_, hok, a4, a5, ?_⟩
  · show (Wl.wsec d k l).2.S.set _ _ = _; rw [a2]
  · show ((Wl.wsec d k l).2.R ++ [_]).length = _; simp [a6]
end Go.Proofs.Ytojghjgbnnkldaa
end

section
namespace Go.Proofs.Ytojghjgbnnkldaa
open Go.RowKit Go.Shelf
open Wl (Hd WS Log)

theorem flat_app (a b : List ByteArray) : Wl.flat (a ++ b) = Wl.flat a ++ Wl.flat b := by simp [Wl.flat]
theorem flat_take {S : List ByteArray} (h : D.A128 S) : ∀ k, k ≤ S.length → Wl.flat (S.take k) = (Wl.flat S).take (k * 128) := by
  intro k
  induction k with
  | zero => intro _; simp [Wl.flat]
  | succ k ih =>
    intro hk
    rw [flat_at h (by omega), List.take_succ_eq_append_getElem (by omega), flat_app, ih (by omega)]
    simp [Wl.flat]
theorem sects_len (x : List UInt8) : (Wl.sects x).length = Wl.up x.length := by simp [Wl.sects]
theorem sects_128 (x : List UInt8) : ∀ s ∈ Wl.sects x, s.size = 128 := by
  intro s hs
  obtain ⟨k, hk, rfl⟩ := List.mem_map.mp hs
  exact sect_size (pad_len x) (List.mem_range.mp hk)
theorem take_two (l : List UInt8) (a b : Nat) : l.take (a + b) = l.take a ++ (l.drop a).take b := List.take_add
theorem flat_sect (l : List UInt8) : ∀ m, m * 128 ≤ l.length → Wl.flat ((List.range m).map (Wl.sect l)) = l.take (m * 128) := by
  intro m
  induction m with
  | zero => intro _; simp [Wl.flat]
  | succ m ih =>
    intro h
    rw [List.range_succ, List.map_append, flat_app, ih (by omega), List.map_singleton]
    have e : Wl.flat [Wl.sect l m] = (l.drop (m * 128)).take 128 := by simp [Wl.flat, Wl.sect]
    rw [e, show (m + 1) * 128 = m * 128 + 128 by omega, take_two l (m * 128) 128]
theorem flat_sects (x : List UInt8) : Wl.flat (Wl.sects x) = Wl.pad x := by
  unfold Wl.sects
  rw [flat_sect _ _ (by rw [pad_len]; exact Nat.le_refl _), ← pad_len, List.take_length]
theorem frames_two (l : List ByteArray) (h : ∀ r ∈ l, 1 ≤ r.size ∧ r.size ≤ 2048) : 2 * l.length ≤ (frames l).length := by
  induction l with
  | nil => simp [frames]
  | cons r l ih =>
    have h1 := h r List.mem_cons_self
    have h2 := ih fun x hx => h x (List.mem_cons_of_mem _ hx)
    have h3 := Pk.enc_pos r.size
    rw [frames_cons, List.length_append, frame_len, List.length_cons]; omega
theorem logOf_parse {S : List ByteArray} {k : Nat} {L : Log} (h : Wl.logOf S k = some L) : L.h = Wl.parse (S.getD k ByteArray.empty) := by
  unfold Wl.logOf at h
  split at h
  · obtain ⟨l, _, rfl⟩ := Option.map_eq_some_iff.1 h
    rfl
  · cases h
/-- bytes put behind what stands -/
theorem stands_put {S : List ByteArray} (h8 : D.A128 S) {f used : Nat} {FR : List UInt8} {i : Nat} {v : ByteArray} (hf : f + used / 128 < S.length) (hi : i < f) :
    (Wl.flat (((putS S (f + used / 128) (Wl.sects ((S.getD (f + used / 128) ByteArray.empty).data.toList.take (used % 128) ++ FR))).set i v).drop f)).take (used + FR.length) = (Wl.flat (S.drop f)).take used ++ FR := by
  have hm : used % 128 < 128 := Nat.mod_lt _ (by decide)
  have hu : used = used / 128 * 128 + used % 128 := by omega
  generalize used / 128 = q at *
  generalize used % 128 = m at *
  have h8f := drop128 h8 f
  have hq : q < (S.drop f).length := by rw [List.length_drop]; omega
  have hsec : S.getD (f + q) ByteArray.empty = (S.drop f)[q] := by
    rw [List.getD_eq_getElem?_getD, List.getElem?_eq_getElem hf, List.getElem_drop]; rfl
  have hl128 : ((S.drop f)[q]).data.toList.length = 128 := by rw [← D.size_list]; exact h8f.get hq
  have hAt := flat_at h8f hq
  rw [hsec]
  have hAl : ((Wl.flat (S.drop f)).take (q * 128)).length = q * 128 := by rw [List.length_take, flat_len h8f]; omega
  have hU : (Wl.flat (S.drop f)).take used = (Wl.flat (S.drop f)).take (q * 128) ++ ((S.drop f)[q]).data.toList.take m := by
    have e1 : (Wl.flat (S.drop f)).take used = ((Wl.flat (S.drop f)).take ((q + 1) * 128)).take used := by rw [List.take_take]; congr 1; omega
    rw [e1, hAt, List.take_append, hAl, List.take_of_length_le (by rw [hAl]; omega)]
    congr 2; omega
  generalize hAH : ((S.drop f)[q]).data.toList.take m = AH at *
  have hAHl : AH.length = m := by rw [← hAH, List.length_take, hl128]; omega
  rw [List.drop_set_of_lt hi]
  have hd : (putS S (f + q) (Wl.sects (AH ++ FR))).drop f = (S.drop f).take q ++ (Wl.sects (AH ++ FR) ++ S.drop (f + q + (Wl.sects (AH ++ FR)).length)) := by
    unfold putS
    rw [List.drop_append_of_le_length (by rw [List.length_take]; omega), List.drop_take, show f + q - f = q by omega]
  rw [hd, flat_app, flat_take h8f q (by omega), flat_app, flat_sects]
  unfold Wl.pad
  rw [hU]
  have hlen : ((Wl.flat (S.drop f)).take (q * 128) ++ AH ++ FR).length = used + FR.length := by rw [List.length_append, List.length_append, hAl, hAHl]; omega
  rw [← hlen]
  have : (Wl.flat (S.drop f)).take (q * 128) ++ (AH ++ FR ++ List.replicate (Wl.up (AH ++ FR).length * 128 - (AH ++ FR).length) 0 ++ Wl.flat (S.drop (f + q + (Wl.sects (AH ++ FR)).length))) = ((Wl.flat (S.drop f)).take (q * 128) ++ AH ++ FR) ++ (List.replicate (Wl.up (AH ++ FR).length * 128 - (AH ++ FR).length) 0 ++ Wl.flat (S.drop (f + q + (Wl.sects (AH ++ FR)).length))) := by simp
  rw [this, List.take_left' rfl]
end Go.Proofs.Ytojghjgbnnkldaa
end

section
namespace Go.Proofs.Ytojghjgbnnkldaa
open Go.RowKit Go.Shelf
open Wl (Hd WS Log)

theorem getD_set_self {S : List ByteArray} {k : Nat} (hk : k < S.length) (v : ByteArray) : (S.set k v).getD k ByteArray.empty = v := by
  rw [List.getD_eq_getElem?_getD, List.getElem?_set_self hk]; rfl
theorem getD_set_far {S : List ByteArray} {k j : Nat} (h : k ≠ j) (v : ByteArray) : (S.set k v).getD j ByteArray.empty = S.getD j ByteArray.empty := by
  rw [List.getD_eq_getElem?_getD, List.getElem?_set_ne h, List.getD_eq_getElem?_getD]
theorem getD_put {S : List ByteArray} {k j : Nat} {l : List ByteArray} (h : j < k) (hk : k ≤ S.length) : (putS S k l).getD j ByteArray.empty = S.getD j ByteArray.empty := by
  unfold putS
  rw [List.getD_eq_getElem?_getD, List.getElem?_append_left (by rw [List.length_take]; omega), List.getElem?_take_of_lt h, List.getD_eq_getElem?_getD]
/-- a record that is taken -/
theorem Con.append {d : D.DS} {ws : WS} {s : ByteArray} {l : List ByteArray} (h : Con d ws s l) {r : ByteArray} (h1 : 1 ≤ r.size) (h2 : r.size ≤ 2048) (hr : r.size ≤ Wl.room d.S.length ws.h) (hn : ws.h.num < 1099511627776) :
    (Wl.append d ws r).1 = 0 ∧ Con (Wl.append d ws r).2.1 (Wl.append d ws r).2.2 s (l ++ [r]) ∧ (Wl.append d ws r).2.2.h = Wl.hdA ws.h r ∧ (Wl.append d ws r).2.1.R.length ≤ d.R.length + 600 ∧ (Wl.append d ws r).2.1.S.length = d.S.length := by
  have hfit := room_fit h1 hr
  have hfl := frame_len r
  have hpos := Pk.enc_pos r.size
  have hused := h.wok.used
  have hhb := hb_le h.ok
  obtain ⟨g1, g2, g3⟩ := h.wok.fits
  have hhf := h.wok.half
  have h8 : ws.h.half * Wl.hs d.S.length ≤ Wl.hs d.S.length := by
    have := Nat.mul_le_mul_right (Wl.hs d.S.length) (show ws.h.half ≤ 1 by omega)
    omega
  have hbe : Wl.hb d.S.length = Wl.hs d.S.length * 128 := rfl
  have hm : ws.h.used % 128 < 128 := Nat.mod_lt _ (by decide)
  have hpl : Wl.place d ws.h = Wl.first d.S.length ws.h.half + ws.h.used / 128 := rfl
  have hfi : Wl.first d.S.length ws.h.half = 2 + ws.h.half * Wl.hs d.S.length := rfl
  have hplt : Wl.place d ws.h < d.S.length := by rw [hpl, hfi]; omega
  have hsec8 : (d.S.getD (Wl.place d ws.h) ByteArray.empty).size = 128 := by
    rw [List.getD_eq_getElem?_getD, List.getElem?_eq_getElem hplt]; exact h.ok.s128.get _
  have hal : (Wl.ahead d ws.h).length = ws.h.used % 128 := by
    unfold Wl.ahead; rw [List.length_take, ← D.size_list, hsec8]; omega
  have hup : Wl.up (Wl.ahead d ws.h ++ Wl.frame r).length ≤ 20 ∧ Wl.place d ws.h + Wl.up (Wl.ahead d ws.h ++ Wl.frame r).length ≤ d.S.length := by
    have henc := Pk.enc_ten (n := r.size) (by omega)
    rw [List.length_append, hal, hfl, hpl, hfi]; unfold Wl.up; omega
  have hkl : Wl.place d ws.h + (Wl.sects (Wl.ahead d ws.h ++ Wl.frame r)).length ≤ d.S.length := by rw [sects_len]; exact hup.2
  obtain ⟨a1, a2, a3, a4, a5, a6⟩ := layW_calm h.ok h.live h.calm hkl (sects_128 _) (by omega) (Wl.hdA ws.h r)
  have eA : Wl.append d ws r = Wl.done ws ⟨Wl.hdA ws.h r, ws.rc + 1, ws.gone⟩ (Wl.layW d (Wl.place d ws.h) (Wl.sects (Wl.ahead d ws.h ++ Wl.frame r)) (Wl.hdA ws.h r)) := by
    unfold Wl.append Wl.powered
    rw [if_neg (by simp [h.gone, h.live]), if_neg (by omega), if_neg (by omega), if_neg (by omega)]
  rw [sects_len] at a6
  generalize Wl.layW d (Wl.place d ws.h) (Wl.sects (Wl.ahead d ws.h ++ Wl.frame r)) (Wl.hdA ws.h r) = X at *
  obtain ⟨x0, xd⟩ := X
  simp only at a1 a2 a3 a4 a5 a6
  subst a1
  have eA2 : Wl.append d ws r = (0, xd, ⟨Wl.hdA ws.h r, ws.rc + 1, ws.gone⟩) := by rw [eA]; unfold Wl.done; simp
  rw [eA2]
  have hSl : xd.S.length = d.S.length := by rw [a2, List.length_set, putS_len hkl]
  have hn2 : (ws.h.num + 1) % 2 ≠ ws.h.num % 2 := by omega
  have hnum : (Wl.hdA ws.h r).num = ws.h.num + 1 := rfl
  have hlt2 : (ws.h.num + 1) % 2 < 2 := Nat.mod_lt _ (by decide)
  have hlt3 : ws.h.num % 2 < 2 := Nat.mod_lt _ (by decide)
  have hp2 : 2 ≤ Wl.place d ws.h := by rw [hpl, hfi]; omega
  have hst : Wl.stands xd.S (Wl.hdA ws.h r) = s.data.toList ++ frames (l ++ [r]) := by
    have e := stands_put h.ok.s128 (f := Wl.first d.S.length ws.h.half) (used := ws.h.used) (FR := Wl.frame r) (i := (ws.h.num + 1) % 2) (v := Wl.headB (Wl.hdA ws.h r)) (by rw [← hpl]; exact hplt) (by rw [hfi]; omega)
    unfold Wl.stands
    rw [hSl, a2, hnum]
    have eu : (Wl.hdA ws.h r).used = ws.h.used + (Wl.frame r).length := by show ws.h.sn + (ws.h.lg + _) = ws.h.sn + ws.h.lg + _; omega
    rw [eu]
    refine e.trans ?_
    rw [frames_snoc, ← List.append_assoc, ← h.st]
    rfl
  refine ⟨rfl, ⟨a3, ⟨by rw [hSl]; exact h.wok.fits, by show ws.h.num + 1 ≤ _; omega, hhf, h.wok.sn, ?_, ?_⟩, a4, a5, ?_, by show 1 ≤ ws.h.num + 1; omega, ?_, hst, h.sn, ?_, ?_, h.gone⟩, rfl, ?_, hSl⟩
  · show (Wl.hdA ws.h r).used ≤ Wl.hb xd.S.length
    rw [hSl]
    show ws.h.sn + (ws.h.lg + _) ≤ _
    have : ws.h.used = ws.h.sn + ws.h.lg := rfl
    omega
  · show ws.rc + 1 ≤ 65536
    have ht := frames_two (l ++ [r]) (fun x hx => by
      rcases List.mem_append.mp hx with hx | hx
      · exact h.recs x hx
      · rw [List.mem_singleton.mp hx]; exact ⟨h1, h2⟩)
    have hl := congrArg List.length hst
    rw [List.length_append] at hl
    have hle : (Wl.stands xd.S (Wl.hdA ws.h r)).length ≤ (Wl.hdA ws.h r).used := by unfold Wl.stands; rw [List.length_take]; exact Nat.min_le_left _ _
    have eu : (Wl.hdA ws.h r).used = ws.h.used + (Wl.frame r).length := by show ws.h.sn + (ws.h.lg + _) = ws.h.sn + ws.h.lg + _; omega
    rw [List.length_append, List.length_singleton] at ht
    have := h.rc
    omega
  · show xd.S.getD ((ws.h.num + 1) % 2) ByteArray.empty = _
    rw [a2, hnum]
    exact getD_set_self (by rw [putS_len hkl]; omega) _
  · intro L hL
    have hp := logOf_parse hL
    have e1 : 1 - (Wl.hdA ws.h r).num % 2 = ws.h.num % 2 := by rw [hnum]; omega
    rw [e1, a2, hnum, getD_set_far hn2, getD_put (by omega) (by omega), h.head, parse_head ws.h (by omega) (by omega) (by have := h.wok.sn; omega) (by have : ws.h.used = ws.h.sn + ws.h.lg := rfl; omega)] at hp
    show L.h.num < ws.h.num + 1
    rw [hp]; omega
  · intro x hx
    rcases List.mem_append.mp hx with hx | hx
    · exact h.recs x hx
    · rw [List.mem_singleton.mp hx]; exact ⟨h1, h2⟩
  · show ws.rc + 1 = (l ++ [r]).length
    rw [List.length_append, List.length_singleton, h.rc]
  · show xd.R.length ≤ _; rw [a6]; omega
end Go.Proofs.Ytojghjgbnnkldaa
end

section
namespace Go.Proofs.Ytojghjgbnnkldaa
open Go.RowKit Go.Shelf
open Wl (Hd WS Log)

theorem h1_may (n : Nat) : Wl.MayBe Wl.h1 n := ⟨by decide, by decide, by decide, by decide, Nat.zero_le _⟩
theorem fresh_write {n : Nat} (h2 : 2 ≤ n) (h3 : n ≤ 1026) : (D.fresh (List.replicate n D.zsec)).write 1 (Wl.headB Wl.h1) = (0, { D.fresh (List.replicate n D.zsec) with S := (List.replicate n D.zsec).set 1 (Wl.headB Wl.h1), R := [⟨1, Wl.headB Wl.h1⟩] }) :=
  write_calm (k := 1) (D.fresh_ok (D.rep_128 n) (by simp; omega) (by simp; omega)) rfl rfl (by show 1 < (List.replicate n D.zsec).length; simp; omega) (Wl.headB_size _)
/-- a log that is laid on noughts -/
theorem con_format {n : Nat} (hf : Wl.Fits n) : ∃ d, Wl.fmt (D.fresh (List.replicate n D.zsec)) = (0, d) ∧ Con d ⟨Wl.h1, 0, false⟩ ⟨#[]⟩ [] ∧ d.R.length = 1 ∧ d.S.length = n := by
  obtain ⟨g1, g2, g3⟩ := hf
  have hl : (List.replicate n D.zsec).length = n := List.length_replicate
  have e : Wl.fmt (D.fresh (List.replicate n D.zsec)) = (D.fresh (List.replicate n D.zsec)).write 1 (Wl.headB Wl.h1) := by
    rw [fmt_yes rfl (by show Wl.Fits (List.replicate n D.zsec).length; rw [hl]; exact ⟨g1, g2, g3⟩)]
    show (match Wl.find (List.replicate n D.zsec) with | some _ => _ | none => _) = _
    rw [find_fresh n (by omega)]
  have ew := fresh_write (n := n) (by omega) (by omega)
  have hok := D.DS.write_ok (D.fresh_ok (D.rep_128 n) (by rw [hl]; omega) (by rw [hl]; omega)) 1 (Wl.headB Wl.h1)
  rw [ew] at hok
  refine ⟨_, e.trans ew, ⟨hok, ⟨?_, by decide, by decide, by decide, Nat.zero_le _, Nat.zero_le _⟩, rfl, rfl, ?_, by decide, ?_, rfl, rfl, (fun r hr => by cases hr), rfl, rfl⟩, rfl, ?_⟩
  · show Wl.Fits ((List.replicate n D.zsec).set 1 _).length; rw [List.length_set, hl]; exact ⟨g1, g2, g3⟩
  · exact getD_set_self (by rw [hl]; omega) _
  · intro L hL
    have : Wl.logOf ((List.replicate n D.zsec).set 1 (Wl.headB Wl.h1)) 0 = none := logOf_zero (by
      rw [getD_set_far (by decide), List.getD_eq_getElem?_getD, List.getElem?_replicate, if_pos (by omega)]; rfl)
    rw [show (1 - (⟨Wl.h1, 0, false⟩ : WS).h.num % 2) = 0 from rfl] at hL
    exact absurd (this.symm.trans hL) (by simp)
  · show ((List.replicate n D.zsec).set 1 _).length = n; rw [List.length_set, hl]
theorem room6 : Wl.room 6 Wl.h1 = 254 := by
  show Wl.roomF 256 256 = 254
  have l2 : ∀ k, 128 ≤ k → k < 16384 → (Pk.enc k).length = 2 := fun k h1 h2 => by rw [Pk.enc_ge (by omega), Pk.enc_lt (by omega)]; rfl
  rw [show (256 : Nat) = 255 + 1 from rfl, roomF_succ, l2 _ (by decide) (by decide), if_neg (by decide), show (255 : Nat) = 254 + 1 from rfl, roomF_succ, l2 _ (by decide) (by decide), if_neg (by decide), show (254 : Nat) = 253 + 1 from rfl, roomF_succ, l2 _ (by decide) (by decide), if_pos (by decide)]
theorem Con.opens {w : World} {b : Nat} {d : D.DS} {ws : WS} {s : ByteArray} {l : List ByteArray} (h : Con d ws s l) {e : Ending} {w' : World} (hP : OPost w b d e w') :
    Below w.heap.size w w' ∧ ∃ (W : Nat) (ad : Option Addr) (cp : Nat), e = .returned (.tuple #[.pointer (some ⟨W, 0, none⟩), .string s, .slice ad l.length cp, .int .i64 0]) ∧ w.heap.size ≤ W ∧ Wm w' W b ⟨ws.h, l.length, false⟩ ∧ w'.ownsRow w.heap.size 9 1 (.slice ad l.length cp) l.length (l.map .string) ∧ (Value.slice ad l.length cp).ownBlock ≠ some W := by
  refine ⟨hP.1, ?_⟩
  have := hP.2
  rw [if_neg (by simp [h.live]), if_neg (by simpa using h.wok.fits), h.find] at this
  exact this
def ab : ByteArray := ⟨#[97, 98]⟩
set_option maxHeartbeats 2000000 in
set_option maxRecDepth 8000 in
theorem fixed_any (w : World) : Calls Try.prog 7 #[] w fun e w' => e = .returned (.bool true) ∧ Below w.heap.size w w' := by
  have hfit : Wl.Fits 6 := by decide
  obtain ⟨d1, hf1, hC1, hR1, hS1⟩ := con_format hfit
  have HN := hide (D.new_any (w := w) (n := 6) (by decide) (by decide))
  have hrm : Wl.room d1.S.length (⟨Wl.h1, 0, false⟩ : WS).h = 254 := by rw [hS1]; exact room6
  obtain ⟨a1, a2, a3, a4, a5⟩ := hC1.append (r := ab) (by decide) (by decide) (by rw [hrm]; decide) (by decide)
  have hf2 : Wl.fmt d1 = (95, d1) := by rw [fmt_yes hC1.live hC1.wok.fits, hC1.find]
  have hRb : (d1.R.length + 600) * 24 ≤ 140737488355328 := by rw [hR1]; decide
  generalize hAp : Wl.append d1 ⟨Wl.h1, 0, false⟩ ab = X at *
  obtain ⟨xe, xd, xw⟩ := X
  simp only at a1 a2 a3 a4 a5
  subst a1
  have HC1 := hide hC1
  have HC2 := hide a2
  have HAp := hide hAp
  have Hf1 := hide hf1
  have Hf2 := hide hf2
  have Hrm := hide hrm
  clear hC1 a2 a3 a4 a5 hAp hf1 hf2 hrm hR1 hS1 hfit
  go_enter Try.func7, Try.ntmps7
  go_wp2_with fail
  refine HN.out.mono ?_
  rintro e w1 ⟨b, F, rfl, hD, hB1⟩
  have HF := hide (format_any hD (by decide))
  have HFl1 := hide hD.ftlow
  have HB1 := hide hB1
  clear hD hB1 HN
  rw [Hf1.out] at HF
  go_wp2_with fail
  refine HF.out.mono ?_
  rintro e w2 ⟨rfl, F2, hD2, hM2⟩
  have HB2 := hide (HB1.out.trans (hM2.below HB1.out.size HFl1.out))
  have HF2 := hide (format_any hD2 (Nat.le_trans (Nat.mul_le_mul_right 24 (by omega)) hRb))
  have HFl2 := hide hD2.ftlow
  clear hD2 hM2 HF
  rw [Hf2.out] at HF2
  go_wp2_with fail
  refine HF2.out.mono ?_
  rintro e w3 ⟨rfl, F3, hD3, hM3⟩
  have HB3 := hide (HB2.out.trans (hM3.below HB2.out.size HFl2.out))
  have HO := hide (open_any hD3)
  have HD3 := hide hD3
  have HFl3 := hide hD3.ftlow
  clear hD3 hM3 HF2
  go_wp2_with fail
  refine HO.out.mono ?_
  intro e w4 hP
  obtain ⟨hB4, W, ad, cp, rfl, hW, hWm, -, -⟩ := HC1.out.opens hP
  have HB4 := hide (HB3.out.trans (hB4.mono HB3.out.size))
  have HD4 := hide (HD3.out.below hB4)
  have hFW : ¬ F3 W := fun k => absurd (HD3.out.ftlt W k).2 (by omega)
  have HRo := hide (room_any HD4.out hWm HC1.out.wok)
  have HWm := hide hWm
  have h3s := HB3.out.size
  have hWw : w.heap.size ≤ W := by omega
  clear hP hB4 hWm HO
  simp only [List.length_nil] at HRo HWm ⊢
  rw [Hrm.out] at HRo
  go_wp2_with fail
  refine HRo.out.mono ?_
  rintro e w5 ⟨rfl, hB5⟩
  have HB5 := hide (HB4.out.trans (hB5.mono HB4.out.size))
  have HD5 := hide (HD4.out.below hB5)
  have HW5 := hide (HWm.out.below hB5)
  have HA := hide (append_any HD5.out HW5.out hFW HC1.out.wok hRb ab)
  rw [HAp.out] at HA
  simp only at HA
  have HFl5 := hide HD5.out.ftlow
  clear hB5 HRo
  go_wp2_with fail
  refine HA.out.mono ?_
  rintro e w6 ⟨rfl, hW6, F6, hD6, hM6, hn6⟩
  have HB6 := hide (HB5.out.trans (hM6.below HB5.out.size (fun k hk => by rcases hk with hk | hk; exact HFl5.out k hk; omega)))
  have HO6 := hide (open_any hD6)
  clear hW6 hD6 hM6 HA
  go_wp2_with fail
  refine HO6.out.mono ?_
  intro e w7 hP
  obtain ⟨hB7, W7, ad7, cp7, rfl, hW7, hWm7, hO7, -⟩ := HC2.out.opens hP
  have HB7 := hide (HB6.out.trans (hB7.mono HB6.out.size))
  clear hP hB7 hWm7 HO6
  simp only [List.nil_append, List.length_singleton, List.map_singleton] at hO7 ⊢
  have hg7 : ∃ g, ad7 = some ⟨g, 0, none⟩ ∧ g < w7.heap.size := by
    rcases D.own_form hO7 with ⟨h9, _⟩ | ⟨g, cap, h9, hg, _⟩
    · injection h9 with _ h9; cases h9
    · injection h9 with h9; exact ⟨g, h9, hg⟩
  obtain ⟨g, rfl, hgl⟩ := hg7
  have hc : w7.cell? ⟨g, 0, none⟩ = some (.string ⟨#[97, 98]⟩) := by
    have := hO7.cells (g := g) rfl 0 _ rfl
    rwa [Addr.add_lit, Nat.zero_add] at this
  clear hO7 HC1 HC2
  go_wp2_with fail
  go_ret
  exact ⟨rfl, HB7.out⟩
end Go.Proofs.Ytojghjgbnnkldaa
end

section
namespace Go.Proofs.Ytojghjgbnnkldaa
open Go.RowKit Go.Shelf
open Wl (Hd WS Log)

/-- an append: taken, or nothing is turned -/
theorem Con.append_or {d : D.DS} {ws : WS} {s : ByteArray} {l : List ByteArray} (h : Con d ws s l) (hn : ws.h.num < 1099511627776) (r : ByteArray) :
    ((Wl.append d ws r).1 = 0 ∧ Con (Wl.append d ws r).2.1 (Wl.append d ws r).2.2 s (l ++ [r]) ∧ (Wl.append d ws r).2.2.h = Wl.hdA ws.h r ∧ (Wl.append d ws r).2.1.R.length ≤ d.R.length + 600 ∧ (Wl.append d ws r).2.1.S.length = d.S.length) ∨ ((Wl.append d ws r).1 ≠ 0 ∧ (Wl.append d ws r).2.1 = d ∧ (Wl.append d ws r).2.2 = ws) := by
  by_cases h1 : r.size < 1 ∨ 2048 < r.size
  · refine .inr ?_
    have : Wl.append d ws r = (92, d, ws) := by unfold Wl.append Wl.powered; rw [if_neg (by simp [h.gone, h.live]), if_pos h1]
    rw [this]; exact ⟨by show (92 : Int) ≠ 0; decide, rfl, rfl⟩
  · by_cases h2 : Wl.room d.S.length ws.h < r.size
    · refine .inr ?_
      have : Wl.append d ws r = (93, d, ws) := by unfold Wl.append Wl.powered; rw [if_neg (by simp [h.gone, h.live]), if_neg h1, if_pos h2]
      rw [this]; exact ⟨by show (93 : Int) ≠ 0; decide, rfl, rfl⟩
    · exact .inl (h.append (by omega) (by omega) (by omega) hn)
/-- a row of texts is none of a disk's blocks -/
theorem dk_str {base : Nat} {w : World} {b : Nat} {F : Nat → Prop} {d : D.DS} (h : D.Dk base w b F d) {X : Nat} {cs : Array Value} (hX : w.heap[X]? = some (.cells cs 9 (0, 0))) : ¬ F X := by
  obtain ⟨vs, vr, h, rfl⟩ := h
  rintro (rfl | hk | hk)
  · rw [h.blk] at hX; injection hX with hX; injection hX with _ hX; exact absurd hX (by decide)
  · rcases h.sec.2 with ⟨rfl, _⟩ | ⟨g, cap, cur, rfl, _, hg, _⟩
    · cases hk
    · injection hk with hk; subst hk; rw [hg] at hX; injection hX with hX; injection hX with _ hX; exact absurd hX (by decide)
  · rcases h.raw.2 with ⟨rfl, _⟩ | ⟨g, cap, cur, rfl, _, hg, _⟩
    · cases hk
    · injection hk with hk; subst hk; rw [hg] at hX; injection hX with hX; injection hX with _ hX; exact absurd hX (by decide)
theorem own_blk {w : World} {B n : Nat} {v : Value} {xs : List Value} (h : w.ownsRow B 9 1 v n xs) {k : Nat} (hk : v.ownBlock = some k) : ∃ cs, w.heap[k]? = some (.cells cs 9 (0, 0)) := by
  rcases h.2 with ⟨rfl, _⟩ | ⟨g, cap, cur, rfl, _, hg, _⟩
  · cases hk
  · injection hk with hk; subst hk; exact ⟨cur, hg⟩
theorem wm_str {w : World} {W b : Nat} {ws : WS} (h : Wm w W b ws) {X : Nat} {cs : Array Value} (hX : w.heap[X]? = some (.cells cs 9 (0, 0))) : X ≠ W := by
  rintro rfl
  rw [h] at hX; injection hX with hX; injection hX with _ hX; exact absurd hX (by decide)
end Go.Proofs.Ytojghjgbnnkldaa
end

section
namespace Go.Proofs.Ytojghjgbnnkldaa
open Go.RowKit Go.Shelf
open Wl (Hd WS Log)

def one : ByteArray := ⟨#[115]⟩
/-- a snapshot of one byte is taken -/
theorem Con.snap {d : D.DS} {ws : WS} {s : ByteArray} {l : List ByteArray} (h : Con d ws s l) (hn : ws.h.num < 1099511627776) : (Wl.snapshot d ws one).1 = 0 ∧ (Wl.snapshot d ws one).2.2.rc = 0 := by
  obtain ⟨g1, g2, g3⟩ := h.wok.fits
  have hhf := h.wok.half
  have h8 : (1 - ws.h.half) * Wl.hs d.S.length ≤ Wl.hs d.S.length := by
    have := Nat.mul_le_mul_right (Wl.hs d.S.length) (show 1 - ws.h.half ≤ 1 by omega)
    omega
  have hfi : Wl.first d.S.length (1 - ws.h.half) = 2 + (1 - ws.h.half) * Wl.hs d.S.length := rfl
  have hone : one.size = 1 := rfl
  have hbe : Wl.hb d.S.length = Wl.hs d.S.length * 128 := rfl
  have hsl : (Wl.sects one.data.toList).length = 1 := by rw [sects_len]; rfl
  obtain ⟨a1, -⟩ := layW_calm h.ok h.live h.calm (k := Wl.first d.S.length (1 - ws.h.half)) (l := Wl.sects one.data.toList) (by rw [hsl, hfi]; omega) (sects_128 _) (by omega) (Wl.hdS ws.h one)
  have e : Wl.snapshot d ws one = Wl.done ws ⟨Wl.hdS ws.h one, 0, ws.gone⟩ (Wl.layW d (Wl.first d.S.length (1 - ws.h.half)) (Wl.sects one.data.toList) (Wl.hdS ws.h one)) := by
    unfold Wl.snapshot Wl.powered
    rw [if_neg (by simp [h.gone, h.live]), if_neg (by rw [hone]; omega), if_neg (by omega)]
  rw [e]
  refine ⟨a1, ?_⟩
  unfold Wl.done
  rw [if_pos a1]
/-- a log in memory, its disk, what it tells -/
structure TwI (w0 : World) (b W : Nat) (l : List ByteArray) (d : D.DS) (ws : WS) (F : Nat → Prop) (w : World) : Prop where
  con : Con d ws ⟨#[]⟩ l
  nm : ws.h.num = 1 + l.length
  rl : d.R.length ≤ 1 + 600 * l.length
  dk : D.Dk w0.heap.size w b F d
  wm : Wm w W b ws
  nf : ¬ F W
  hW : w0.heap.size ≤ W
  bel : Below w0.heap.size w0 w
theorem TwI.small {w0 : World} {b W : Nat} {l : List ByteArray} {d : D.DS} {ws : WS} {F : Nat → Prop} {w : World} (h : TwI w0 b W l d ws F w) : l.length ≤ 65536 := by
  have := h.con.wok.rc; rw [h.con.rc] at this; exact this
theorem TwI.R {w0 : World} {b W : Nat} {l : List ByteArray} {d : D.DS} {ws : WS} {F : Nat → Prop} {w : World} (h : TwI w0 b W l d ws F w) : (d.R.length + 2000) * 24 ≤ 140737488355328 := by
  have h1 := h.small
  have h2 := h.rl
  exact Nat.le_trans (Nat.mul_le_mul_right 24 (show d.R.length + 2000 ≤ 100000000 by omega)) (by decide)
theorem TwI.below {w0 : World} {b W : Nat} {l : List ByteArray} {d : D.DS} {ws : WS} {F : Nat → Prop} {w w' : World} (h : TwI w0 b W l d ws F w) (hb : Below w.heap.size w w') : TwI w0 b W l d ws F w' :=
  ⟨h.con, h.nm, h.rl, h.dk.below hb, h.wm.below hb, h.nf, h.hW, h.bel.trans (hb.mono h.bel.size)⟩
theorem TwI.next {w0 : World} {b W : Nat} {l : List ByteArray} {d : D.DS} {ws : WS} {F : Nat → Prop} {w : World} (h : TwI w0 b W l d ws F w) (r : ByteArray) :
    ∃ l', Con (Wl.append d ws r).2.1 (Wl.append d ws r).2.2 ⟨#[]⟩ l' ∧ (Wl.append d ws r).2.2.h.num = 1 + l'.length ∧ (Wl.append d ws r).2.1.R.length ≤ 1 + 600 * l'.length := by
  have hnum : ws.h.num < 1099511627776 := by have := h.nm; have := h.small; omega
  rcases h.con.append_or hnum r with ⟨_, hC, hh, hR, _⟩ | ⟨_, hd, hw⟩
  · refine ⟨l ++ [r], hC, ?_, ?_⟩
    · rw [hh]; show ws.h.num + 1 = _; rw [h.nm, List.length_append, List.length_singleton]; omega
    · rw [List.length_append, List.length_singleton]; exact Nat.le_trans hR (by have := h.rl; omega)
  · rw [hd, hw]; exact ⟨l, h.con, h.nm, h.rl⟩
set_option maxHeartbeats 1000000 in
set_option maxRecDepth 8000 in
theorem laid_any (half : Nat) (h1 : 1 ≤ half) (h2 : half ≤ 512) (w : World) : Calls Try.prog 12 #[.int .i64 (half : Int)] w fun e w' => ∃ b W d F, e = .returned (.tuple #[.pointer (some ⟨b, 0, none⟩), .pointer (some ⟨W, 0, none⟩)]) ∧ TwI w b W [] d ⟨Wl.h1, 0, false⟩ F w' ∧ d.S.length = 2 + 2 * half := by
  have hhs : Wl.hs (2 + 2 * half) = half := by unfold Wl.hs; omega
  obtain ⟨d1, hf1, hC1, hR1, hS1⟩ := con_format (n := 2 + 2 * half) (by unfold Wl.Fits; rw [hhs]; omega)
  have HN := hide (D.new_any (w := w) (n := 2 + 2 * half) (by omega) (by omega))
  have hcast : ((2 + 2 * half : Nat) : Int) = 2 + 2 * (half : Int) := by omega
  rw [hcast] at HN
  have HC1 := hide hC1
  have Hf1 := hide hf1
  have HR1 := hide hR1
  have HS1 := hide hS1
  clear hC1 hf1 hR1 hS1 hhs hcast
  go_enter Try.func12, Try.ntmps12
  go_wp2_with fail
  refine HN.out.mono ?_
  rintro e w1 ⟨b, F, rfl, hD, hB1⟩
  have HF := hide (format_any hD (by show (0 + 1) * 24 ≤ 140737488355328; decide))
  have HFl1 := hide hD.ftlow
  have HB1 := hide hB1
  clear hD hB1 HN
  rw [Hf1.out] at HF
  go_wp2_with fail
  refine HF.out.mono ?_
  rintro e w2 ⟨rfl, F2, hD2, hM2⟩
  have HB2 := hide (HB1.out.trans (hM2.below HB1.out.size HFl1.out))
  have HO := hide (open_any hD2)
  have HD2 := hide hD2
  clear hD2 hM2 HF
  go_wp2_with fail
  refine HO.out.mono ?_
  intro e w3 hP
  obtain ⟨hB3, W, ad3, cp3, rfl, hW, hWm, -, -⟩ := HC1.out.opens hP
  have HB3 := hide (HB2.out.trans (hB3.mono HB2.out.size))
  have h2s := HB2.out.size
  have hFW : ¬ F2 W := fun k => absurd (HD2.out.ftlt W k).2 (by omega)
  have HT : Hid (TwI w b W [] d1 ⟨Wl.h1, 0, false⟩ F2 w3) := hide ⟨HC1.out, rfl, by rw [HR1.out]; decide, HD2.out.below hB3, hWm, hFW, by omega, HB3.out⟩
  clear hP hB3 hWm HO HD2 HB1 HB2 HFl1 HB3 HC1 Hf1 HR1
  go_wp2_with fail
  go_ret2
  exact ⟨b, W, d1, F2, rfl, HT.out, HS1.out⟩
end Go.Proofs.Ytojghjgbnnkldaa
end

section
namespace Go.Proofs.Ytojghjgbnnkldaa
open Go.RowKit Go.Shelf
open Wl (Hd WS Log)

def zb (n : Nat) : ByteArray := ⟨(List.replicate n 0).toArray⟩
theorem zb_size (n : Nat) : (zb n).size = n := by show (List.replicate n (0 : UInt8)).toArray.size = n; simp
theorem zmake (n : Nat) (hn : n ≤ 200000) (W : World) : (Instr.makeSlice 45 (.int .i64 (n : Int)) (.int .i64 (n : Int))).run Try.prog W = .ok (.slice (some ⟨W.heap.size, 0, none⟩) n n) (W.alloc (.cells (bc (List.replicate n 0)).toArray 5)) := by
  have := run_make_row' (P := Try.prog) 45 5 (.int .u8 0) 1 Try.underlying45 Try.infoB rfl .i64 .i64 n (by omega) (by omega) W
  rw [made_bc] at this
  exact this
theorem zconv (n : Nat) (W : World) : (convert 45 9 (.slice (some ⟨W.heap.size, 0, none⟩) n n)).run Try.prog (W.alloc (.cells (bc (List.replicate n 0)).toArray 5)) = .ok (.string (zb n)) (W.alloc (.cells (bc (List.replicate n 0)).toArray 5)) := by
  have := run_convert_bytes_back (P := Try.prog) (W.alloc (.cells (bc (List.replicate n 0)).toArray 5)) 45 9 5 ⟨W.heap.size, 0, none⟩ n (List.replicate n 0) Try.underlying45 Try.underlying5 Try.underlying9 (by
    intro j hj
    rw [Addr.add_lit, Nat.zero_add]
    refine new_cell W ?_
    have hj2 : j < n := by simpa using hj
    simp [bc, hj2])
  rw [List.length_replicate] at this
  exact this
theorem roomF_le (left : Nat) : ∀ k, Wl.roomF left k ≤ k := by
  intro k
  induction k with
  | zero => exact Nat.le_refl _
  | succ k ih => rw [roomF_succ]; split <;> omega
theorem room_le (n : Nat) (h : Hd) : Wl.room n h ≤ 2048 := Nat.le_trans (roomF_le _ _) (Nat.min_le_right _ _)
theorem app_long {d : D.DS} {ws : WS} {s : ByteArray} {l : List ByteArray} (h : Con d ws s l) {r : ByteArray} (hr : r.size < 1 ∨ 2048 < r.size) : Wl.append d ws r = (92, d, ws) := by
  unfold Wl.append Wl.powered; rw [if_neg (by simp [h.gone, h.live]), if_pos hr]
theorem app_room {d : D.DS} {ws : WS} {s : ByteArray} {l : List ByteArray} (h : Con d ws s l) {r : ByteArray} (h1 : 1 ≤ r.size) (h2 : r.size ≤ 2048) (hr : Wl.room d.S.length ws.h < r.size) : Wl.append d ws r = (93, d, ws) := by
  unfold Wl.append Wl.powered; rw [if_neg (by simp [h.gone, h.live]), if_neg (by omega), if_pos hr]
theorem snap_long {d : D.DS} {ws : WS} {s : ByteArray} {l : List ByteArray} (h : Con d ws s l) {r : ByteArray} (hr : min 17000 (Wl.hb d.S.length) < r.size) : Wl.snapshot d ws r = (92, d, ws) := by
  unfold Wl.snapshot Wl.powered; rw [if_neg (by simp [h.gone, h.live]), if_pos hr]
theorem dead_any9 {w : World} {W b : Nat} {ws : WS} (hw : Wm w W b ws) : Calls Try.prog 20 #[.pointer (some ⟨W, 0, none⟩)] w fun e w' => e = .returned (.bool ws.gone) ∧ w' = w := by
  obtain ⟨c0, c1, c2, c3, c4, c5, c6, cz⟩ := wm_cells hw
  have hl := lt_of_block hw
  clear hw
  go_enter Try.func20, Try.ntmps20
  go_wp2
  go_ret
  exact ⟨rfl, rfl⟩
/-- behind a call that turned nothing -/
theorem TwI.still {w0 : World} {b W : Nat} {l : List ByteArray} {d : D.DS} {ws : WS} {F F' : Nat → Prop} {w w' : World} (h : TwI w0 b W l d ws F w) (hD : D.Dk w0.heap.size w' b F' d) (hW : Wm w' W b ws) (hM : D.Mv (FW F W) (FW F' W) w w') (hn : ¬ F' W) : TwI w0 b W l d ws F' w' :=
  ⟨h.con, h.nm, h.rl, hD, hW, hn, h.hW, h.bel.trans (hM.below h.bel.size fun k e => by rcases e with e | e; exact h.dk.ftlow k e; rw [e]; exact h.hW)⟩
theorem own_mv {w w' : World} {B n : Nat} {v : Value} {xs : List Value} (h : w.ownsRow B 9 1 v n xs) {w0 : World} {b W : Nat} {l : List ByteArray} {d : D.DS} {ws : WS} {F F' : Nat → Prop} (hT : TwI w0 b W l d ws F w) (hM : D.Mv (FW F W) (FW F' W) w w') : w'.ownsRow B 9 1 v n xs :=
  D.own_keep h fun k hk => by
    obtain ⟨cs, hcs⟩ := own_blk h hk
    exact hM.block k (lt_of_block hcs) (fun e => by rcases e with e | e; exact dk_str hT.dk hcs e; exact wm_str hT.wm hcs e)
end Go.Proofs.Ytojghjgbnnkldaa
end

section
namespace Go.Proofs.Ytojghjgbnnkldaa
open Go.RowKit Go.Shelf
open Wl (Hd WS Log)

/-- the loop's state -/
structure KpI (w0 : World) (b W : Nat) (v : Value) (l : List ByteArray) (d : D.DS) (ws : WS) (F : Nat → Prop) (w : World) : Prop where
  con : Con d ws ⟨#[]⟩ l
  sl : d.S.length = 20
  nm : ws.h.num = 1 + l.length
  rl : d.R.length ≤ 1 + 600 * l.length
  dk : D.Dk w0.heap.size w b F d
  wm : Wm w W b ws
  nf : ¬ F W
  hW : w0.heap.size ≤ W
  own : w.ownsRow w0.heap.size 9 1 v l.length (l.map .string)
  bel : Below w0.heap.size w0 w
theorem KpI.small {w0 : World} {b W : Nat} {v : Value} {l : List ByteArray} {d : D.DS} {ws : WS} {F : Nat → Prop} {w : World} (h : KpI w0 b W v l d ws F w) : l.length ≤ 65536 := by
  have := h.con.wok.rc; rw [h.con.rc] at this; exact this
theorem KpI.R {w0 : World} {b W : Nat} {v : Value} {l : List ByteArray} {d : D.DS} {ws : WS} {F : Nat → Prop} {w : World} (h : KpI w0 b W v l d ws F w) : (d.R.length + 600) * 24 ≤ 140737488355328 := by
  have h1 := h.small
  have h2 := h.rl
  exact Nat.le_trans (Nat.mul_le_mul_right 24 (show d.R.length + 600 ≤ 100000000 by omega)) (by decide)
/-- only new blocks -/
theorem KpI.below {w0 : World} {b W : Nat} {v : Value} {l : List ByteArray} {d : D.DS} {ws : WS} {F : Nat → Prop} {w w' : World} (h : KpI w0 b W v l d ws F w) (hb : Below w.heap.size w w') : KpI w0 b W v l d ws F w' :=
  ⟨h.con, h.sl, h.nm, h.rl, h.dk.below hb, h.wm.below hb, h.nf, h.hW, D.own_keep h.own fun k hk => hb.block k (own_lo h.own hk).2, h.bel.trans (hb.mono h.bel.size)⟩
/-- a call of Append -/
theorem KpI.called {w0 : World} {b W : Nat} {v : Value} {l l' : List ByteArray} {d d' : D.DS} {ws ws' : WS} {F F' : Nat → Prop} {w w' : World} (h : KpI w0 b W v l d ws F w) (hC : Con d' ws' ⟨#[]⟩ l') (hs : d'.S.length = 20) (hn : ws'.h.num = 1 + l'.length) (hr : d'.R.length ≤ 1 + 600 * l'.length)
    (hD : D.Dk w0.heap.size w' b F' d') (hW : Wm w' W b ws') (hM : D.Mv (FW F W) (FW F' W) w w') (hf : ¬ F' W) : Con d' ws' ⟨#[]⟩ l' ∧ d'.S.length = 20 ∧ ws'.h.num = 1 + l'.length ∧ d'.R.length ≤ 1 + 600 * l'.length ∧ D.Dk w0.heap.size w' b F' d' ∧ Wm w' W b ws' ∧ ¬ F' W ∧ w'.ownsRow w0.heap.size 9 1 v l.length (l.map .string) ∧ Below w0.heap.size w0 w' := by
  refine ⟨hC, hs, hn, hr, hD, hW, hf, D.own_keep h.own fun k hk => ?_, h.bel.trans (hM.below h.bel.size fun k hk => ?_)⟩
  · obtain ⟨cs, hcs⟩ := own_blk h.own hk
    exact hM.block k (lt_of_block hcs) (fun e => by rcases e with e | e; exact dk_str h.dk hcs e; exact wm_str h.wm hcs e)
  · rcases hk with hk | hk
    · exact h.dk.ftlow k hk
    · rw [hk]; exact h.hW
/-- what is wanted grows -/
theorem KpI.grown {w0 : World} {b W : Nat} {v v' : Value} {l l' : List ByteArray} {d : D.DS} {ws : WS} {F : Nat → Prop} {w w1 w' : World} {xs : List Value} (hC : Con d ws ⟨#[]⟩ l') (hs : d.S.length = 20) (hn : ws.h.num = 1 + l'.length) (hr : d.R.length ≤ 1 + 600 * l'.length) (hD : D.Dk w0.heap.size w b F d) (hW : Wm w W b ws) (hf : ¬ F W) (hWl : w0.heap.size ≤ W) (ho : w.ownsRow w0.heap.size 9 1 v l.length xs) (hb : Below w0.heap.size w0 w)
    (h1 : Below w.heap.size w w1) (hg : w1.grownBy w' v.ownBlock) (ho' : w'.ownsRow w0.heap.size 9 1 v' l'.length (l'.map .string)) : KpI w0 b W v' l' d ws F w' := by
  have hk : ∀ k, k < w.heap.size → v.ownBlock ≠ some k → w'.heap[k]? = w.heap[k]? := fun k hk hn => (hg.block k (Nat.lt_of_lt_of_le hk h1.size) (Ne.symm hn)).trans (h1.block k hk)
  refine ⟨hC, hs, hn, hr, hD.keep fun k hk' => hk k (hD.ftlt k hk').2 (fun e => ?_), (hk W (lt_of_block hW) (fun e => ?_)).trans hW, hf, hWl, ho', (hb.trans (h1.mono hb.size)).grown hg (Nat.le_trans hb.size h1.size) (fun k hk' => (own_lo ho hk').1)⟩
  · obtain ⟨cs, hcs⟩ := own_blk ho e; exact dk_str hD hcs hk'
  · obtain ⟨cs, hcs⟩ := own_blk ho e; exact wm_str hW hcs rfl
theorem records_any {w : World} {W b : Nat} {ws : WS} (hw : Wm w W b ws) : Calls Try.prog 17 #[.pointer (some ⟨W, 0, none⟩)] w fun e w' => e = .returned (.int .i64 (ws.rc : Int)) ∧ w' = w := by
  obtain ⟨c0, c1, c2, c3, c4, c5, c6, cz⟩ := wm_cells hw
  have hl := lt_of_block hw
  clear hw
  go_enter Try.func17, Try.ntmps17
  go_wp2
  go_ret
  exact ⟨rfl, rfl⟩
theorem own_put {w : World} {base e size n g : Nat} {v : Value} {xs : List Value} (h : w.ownsRow base e size v n xs) (hv : v.ownBlock = some g) (i : Nat) (u : Value) : ∃ ys, (w.setCell ⟨g, i, none⟩ u).ownsRow base e size v n ys := by
  rcases h.2 with ⟨rfl, _⟩ | ⟨g', cap, cur, rfl, hb, hgg, hn, hm, hc, ht⟩
  · cases hv
  · injection hv with hv
    have hv : g' = g := hv
    subst hv
    refine ⟨(cur.setIfInBounds i u).toList.take (n * size), ?_, .inr ⟨g', cap, cur.setIfInBounds i u, rfl, hb, heap_set_self w g' i u cur _ _ hgg, hn, hm, by simpa using hc, rfl⟩⟩
    rw [List.length_take, Array.length_toList, Array.size_setIfInBounds, hc]
    exact Nat.min_eq_left (Nat.mul_le_mul_right _ hn)
/-- all but one row of texts stays -/
theorem KpI.but {w0 : World} {b W : Nat} {v A : Value} {l : List ByteArray} {d : D.DS} {ws : WS} {F : Nat → Prop} {w w' : World} (h : KpI w0 b W v l d ws F w) (hA : ∀ g, A.ownBlock = some g → (∃ cs, w.heap[g]? = some (.cells cs 9 (0, 0))) ∧ v.ownBlock ≠ some g)
    (hk : ∀ k, k < w.heap.size → A.ownBlock ≠ some k → w'.heap[k]? = w.heap[k]?) (hb : Below w0.heap.size w0 w') : KpI w0 b W v l d ws F w' := by
  refine ⟨h.con, h.sl, h.nm, h.rl, h.dk.keep fun k hk' => hk k (h.dk.ftlt k hk').2 (fun e => ?_), (hk W (lt_of_block h.wm) (fun e => ?_)).trans h.wm, h.nf, h.hW, D.own_keep h.own fun k hk' => hk k (own_lo h.own hk').2 (fun e => (hA k e).2 hk'), hb⟩
  · obtain ⟨⟨cs, hcs⟩, _⟩ := hA k e; exact dk_str h.dk hcs hk'
  · obtain ⟨⟨cs, hcs⟩, _⟩ := hA W e; exact wm_str h.wm hcs rfl
end Go.Proofs.Ytojghjgbnnkldaa
end

section
namespace Go.Proofs.Ytojghjgbnnkldaa
open Go.RowKit Go.Shelf
open Wl (Hd WS Log)

/-- a snapshot that is taken -/
theorem Con.snapshot {d : D.DS} {ws : WS} {s : ByteArray} {l : List ByteArray} (h : Con d ws s l) {t : ByteArray} (ht : t.size ≤ min 17000 (Wl.hb d.S.length)) (hn : ws.h.num < 1099511627776) :
    (Wl.snapshot d ws t).1 = 0 ∧ Con (Wl.snapshot d ws t).2.1 (Wl.snapshot d ws t).2.2 t [] ∧ (Wl.snapshot d ws t).2.2.h = Wl.hdS ws.h t ∧ (Wl.snapshot d ws t).2.1.R.length ≤ d.R.length + 600 ∧ (Wl.snapshot d ws t).2.1.S.length = d.S.length := by
  have hhb := hb_le h.ok
  obtain ⟨g1, g2, g3⟩ := h.wok.fits
  have hhf := h.wok.half
  have h8 : (1 - ws.h.half) * Wl.hs d.S.length ≤ Wl.hs d.S.length := by
    have := Nat.mul_le_mul_right (Wl.hs d.S.length) (show 1 - ws.h.half ≤ 1 by omega)
    omega
  have hbe : Wl.hb d.S.length = Wl.hs d.S.length * 128 := rfl
  have hfi : Wl.first d.S.length (1 - ws.h.half) = 2 + (1 - ws.h.half) * Wl.hs d.S.length := rfl
  have htl : t.data.toList.length = t.size := (D.size_list t).symm
  have hup : Wl.up t.data.toList.length ≤ 200 ∧ Wl.first d.S.length (1 - ws.h.half) + Wl.up t.data.toList.length ≤ d.S.length := by
    rw [htl, hfi]; unfold Wl.up; omega
  have hkl : Wl.first d.S.length (1 - ws.h.half) + (Wl.sects t.data.toList).length ≤ d.S.length := by rw [sects_len]; exact hup.2
  obtain ⟨a1, a2, a3, a4, a5, a6⟩ := layW_calm h.ok h.live h.calm hkl (sects_128 _) (by omega) (Wl.hdS ws.h t)
  have eA : Wl.snapshot d ws t = Wl.done ws ⟨Wl.hdS ws.h t, 0, ws.gone⟩ (Wl.layW d (Wl.first d.S.length (1 - ws.h.half)) (Wl.sects t.data.toList) (Wl.hdS ws.h t)) := by
    unfold Wl.snapshot Wl.powered
    rw [if_neg (by simp [h.gone, h.live]), if_neg (by omega), if_neg (by omega)]
  rw [sects_len] at a6
  generalize Wl.layW d (Wl.first d.S.length (1 - ws.h.half)) (Wl.sects t.data.toList) (Wl.hdS ws.h t) = X at *
  obtain ⟨x0, xd⟩ := X
  simp only at a1 a2 a3 a4 a5 a6
  subst a1
  have eA2 : Wl.snapshot d ws t = (0, xd, ⟨Wl.hdS ws.h t, 0, ws.gone⟩) := by rw [eA]; unfold Wl.done; simp
  rw [eA2]
  have hSl : xd.S.length = d.S.length := by rw [a2, List.length_set, putS_len hkl]
  have hn2 : (ws.h.num + 1) % 2 ≠ ws.h.num % 2 := by omega
  have hnum : (Wl.hdS ws.h t).num = ws.h.num + 1 := rfl
  have hlt2 : (ws.h.num + 1) % 2 < 2 := Nat.mod_lt _ (by decide)
  have hlt3 : ws.h.num % 2 < 2 := Nat.mod_lt _ (by decide)
  have hst : Wl.stands xd.S (Wl.hdS ws.h t) = t.data.toList ++ frames [] := by
    have e := stands_put h.ok.s128 (f := Wl.first d.S.length (1 - ws.h.half)) (used := 0) (FR := t.data.toList) (i := (ws.h.num + 1) % 2) (v := Wl.headB (Wl.hdS ws.h t)) (by rw [hfi]; omega) (by rw [hfi]; omega)
    rw [show (0 : Nat) % 128 = 0 from rfl, show (0 : Nat) / 128 = 0 from rfl, List.take_zero, List.nil_append, Nat.add_zero, Nat.zero_add, List.take_zero, List.nil_append] at e
    unfold Wl.stands
    rw [hSl, a2, hnum, show (Wl.hdS ws.h t).used = t.data.toList.length by rw [htl]; rfl]
    refine e.trans ?_
    simp [frames]
  refine ⟨rfl, ⟨a3, ⟨by rw [hSl]; exact h.wok.fits, by show ws.h.num + 1 ≤ _; omega, by show 1 - ws.h.half < 2; omega, by show t.size ≤ 17000; omega, ?_, Nat.zero_le _⟩, a4, a5, ?_, by show 1 ≤ ws.h.num + 1; omega, ?_, hst, rfl, (fun r hr => by cases hr), rfl, h.gone⟩, rfl, ?_, hSl⟩
  · show t.size + 0 ≤ Wl.hb xd.S.length
    rw [hSl]; omega
  · show xd.S.getD ((ws.h.num + 1) % 2) ByteArray.empty = _
    rw [a2, hnum]
    exact getD_set_self (by rw [putS_len hkl]; omega) _
  · intro L hL
    have hp := logOf_parse hL
    have hus := h.wok.used
    have e1 : 1 - (Wl.hdS ws.h t).num % 2 = ws.h.num % 2 := by rw [hnum]; omega
    rw [e1, a2, hnum, getD_set_far hn2, getD_put (by omega) (by omega), h.head, parse_head ws.h (by omega) (by omega) (by have := h.wok.sn; omega) (by have : ws.h.used = ws.h.sn + ws.h.lg := rfl; omega)] at hp
    show L.h.num < ws.h.num + 1
    rw [hp]; omega
  · show xd.R.length ≤ _; rw [a6]; omega
end Go.Proofs.Ytojghjgbnnkldaa
end
