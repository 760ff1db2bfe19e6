import Derived.Test.YteiickpokabmoabWlZ
namespace Go.Proofs.Yteiickpokabmoab
open Go.RowKit Go.Shelf
open Wl (Hd WS Log)

theorem flat_app (a b : List ByteArray) : Wl.flat (a ++ b) = Wl.flat a ++ Wl.flat b := by simp [Wl.flat]
theorem flat_take {S : List ByteArray} (h : D.A128 S) : ∀ k, k ≤ S.length → Wl.flat (S.take k) = (Wl.flat S).take (k * 128) := by
  intro k
  induction k with
  | zero => intro _; simp [Wl.flat]
  | succ k ih =>
    intro hk
    rw [flat_at h (by omega), List.take_succ_eq_append_getElem (by omega), flat_app, ih (by omega)]
    simp [Wl.flat]
theorem sects_len (x : List UInt8) : (Wl.sects x).length = Wl.up x.length := by simp [Wl.sects]
theorem sects_128 (x : List UInt8) : ∀ s ∈ Wl.sects x, s.size = 128 := by
  intro s hs
  obtain ⟨k, hk, rfl⟩ := List.mem_map.mp hs
  exact sect_size (pad_len x) (List.mem_range.mp hk)
theorem take_two (l : List UInt8) (a b : Nat) : l.take (a + b) = l.take a ++ (l.drop a).take b := List.take_add
theorem flat_sect (l : List UInt8) : ∀ m, m * 128 ≤ l.length → Wl.flat ((List.range m).map (Wl.sect l)) = l.take (m * 128) := by
  intro m
  induction m with
  | zero => intro _; simp [Wl.flat]
  | succ m ih =>
    intro h
    rw [List.range_succ, List.map_append, flat_app, ih (by omega), List.map_singleton]
    have e : Wl.flat [Wl.sect l m] = (l.drop (m * 128)).take 128 := by simp [Wl.flat, Wl.sect]
    rw [e, show (m + 1) * 128 = m * 128 + 128 by omega, take_two l (m * 128) 128]
theorem flat_sects (x : List UInt8) : Wl.flat (Wl.sects x) = Wl.pad x := by
  unfold Wl.sects
  rw [flat_sect _ _ (by rw [pad_len]; exact Nat.le_refl _), ← pad_len, List.take_length]
theorem frames_two (l : List ByteArray) (h : ∀ r ∈ l, 1 ≤ r.size ∧ r.size ≤ 2048) : 2 * l.length ≤ (frames l).length := by
  induction l with
  | nil => simp [frames]
  | cons r l ih =>
    have h1 := h r List.mem_cons_self
    have h2 := ih fun x hx => h x (List.mem_cons_of_mem _ hx)
    have h3 := Pk.enc_pos r.size
    rw [frames_cons, List.length_append, frame_len, List.length_cons]; omega
theorem logOf_parse {S : List ByteArray} {k : Nat} {L : Log} (h : Wl.logOf S k = some L) : L.h = Wl.parse (S.getD k ByteArray.empty) := by
  unfold Wl.logOf at h
  split at h
  · obtain ⟨l, _, rfl⟩ := Option.map_eq_some_iff.1 h
    rfl
  · cases h
/-- bytes put behind what stands -/
theorem stands_put {S : List ByteArray} (h8 : D.A128 S) {f used : Nat} {FR : List UInt8} {i : Nat} {v : ByteArray} (hf : f + used / 128 < S.length) (hi : i < f) :
    (Wl.flat (((putS S (f + used / 128) (Wl.sects ((S.getD (f + used / 128) ByteArray.empty).data.toList.take (used % 128) ++ FR))).set i v).drop f)).take (used + FR.length) = (Wl.flat (S.drop f)).take used ++ FR := by
  have hm : used % 128 < 128 := Nat.mod_lt _ (by decide)
  have hu : used = used / 128 * 128 + used % 128 := by omega
  generalize used / 128 = q at *
  generalize used % 128 = m at *
  have h8f := drop128 h8 f
  have hq : q < (S.drop f).length := by rw [List.length_drop]; omega
  have hsec : S.getD (f + q) ByteArray.empty = (S.drop f)[q] := by
    rw [List.getD_eq_getElem?_getD, List.getElem?_eq_getElem hf, List.getElem_drop]; rfl
  have hl128 : ((S.drop f)[q]).data.toList.length = 128 := by rw [← D.size_list]; exact h8f.get hq
  have hAt := flat_at h8f hq
  rw [hsec]
  have hAl : ((Wl.flat (S.drop f)).take (q * 128)).length = q * 128 := by rw [List.length_take, flat_len h8f]; omega
  have hU : (Wl.flat (S.drop f)).take used = (Wl.flat (S.drop f)).take (q * 128) ++ ((S.drop f)[q]).data.toList.take m := by
    have e1 : (Wl.flat (S.drop f)).take used = ((Wl.flat (S.drop f)).take ((q + 1) * 128)).take used := by rw [List.take_take]; congr 1; omega
    rw [e1, hAt, List.take_append, hAl, List.take_of_length_le (by rw [hAl]; omega)]
    congr 2; omega
  generalize hAH : ((S.drop f)[q]).data.toList.take m = AH at *
  have hAHl : AH.length = m := by rw [← hAH, List.length_take, hl128]; omega
  rw [List.drop_set_of_lt hi]
  have hd : (putS S (f + q) (Wl.sects (AH ++ FR))).drop f = (S.drop f).take q ++ (Wl.sects (AH ++ FR) ++ S.drop (f + q + (Wl.sects (AH ++ FR)).length)) := by
    unfold putS
    rw [List.drop_append_of_le_length (by rw [List.length_take]; omega), List.drop_take, show f + q - f = q by omega]
  rw [hd, flat_app, flat_take h8f q (by omega), flat_app, flat_sects]
  unfold Wl.pad
  rw [hU]
  have hlen : ((Wl.flat (S.drop f)).take (q * 128) ++ AH ++ FR).length = used + FR.length := by rw [List.length_append, List.length_append, hAl, hAHl]; omega
  rw [← hlen]
  have : (Wl.flat (S.drop f)).take (q * 128) ++ (AH ++ FR ++ List.replicate (Wl.up (AH ++ FR).length * 128 - (AH ++ FR).length) 0 ++ Wl.flat (S.drop (f + q + (Wl.sects (AH ++ FR)).length))) = ((Wl.flat (S.drop f)).take (q * 128) ++ AH ++ FR) ++ (List.replicate (Wl.up (AH ++ FR).length * 128 - (AH ++ FR).length) 0 ++ Wl.flat (S.drop (f + q + (Wl.sects (AH ++ FR)).length))) := by simp
  rw [this, List.take_left' rfl]
end Go.Proofs.Yteiickpokabmoab
