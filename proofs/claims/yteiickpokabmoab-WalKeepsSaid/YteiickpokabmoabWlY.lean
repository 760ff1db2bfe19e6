import Derived.Test.YteiickpokabmoabWlW
import Derived.Test.YteiickpokabmoabWlT
namespace Go.Proofs.Yteiickpokabmoab
open Go.RowKit Go.Shelf
open Wl (Hd WS Log)

theorem rest_len9 (b : ByteArray) (p : Nat) : (rest b p).length = b.size - p := by unfold rest; rw [List.length_drop, ← D.size_list]
theorem text_at9 {b S : ByteArray} {p : Nat} {more : List UInt8} (h : rest b p = Pk.enc S.size ++ (S.data.toList ++ more)) (hS : S.size ≤ 2048) :
    textK b p 2048 = 0 ∧ textV b p = S ∧ numQ b p + numV b p = p + ((Pk.enc S.size).length + S.size) := by
  have hD : Pk.dec 0 0 (rest b p) = (0, S.size, (Pk.enc S.size).length) := by
    rw [h, Pk.dec_enc S.size 0 0 _ (by decide) (by omega) (.inl rfl)]
    simp
  have v0 : numV b p = S.size := by unfold numV; rw [hD]
  have q0 : numQ b p = p + (Pk.enc S.size).length := by unfold numQ; rw [hD]
  have k0 := numK_ok (above := 23) hD hS
  have hl := congrArg List.length h
  rw [rest_len9, List.length_append, List.length_append, ← D.size_list] at hl
  have hp := Pk.enc_pos S.size
  refine ⟨?_, ?_, by rw [q0, v0]; omega⟩
  · unfold textK
    rw [k0, if_neg (by simp), if_neg (by rw [q0, v0]; omega)]
  · unfold textV
    rw [v0, q0]
    apply D.ba_ext
    rw [extract_list]
    have e : rest b (p + (Pk.enc S.size).length) = S.data.toList ++ more := by
      unfold rest at h ⊢
      rw [← List.drop_drop, h, List.drop_left' rfl]
    rw [e, List.take_left' (D.size_list S).symm]
def frames (l : List ByteArray) : List UInt8 := l.flatMap Wl.frame
theorem frames_cons (r : ByteArray) (l : List ByteArray) : frames (r :: l) = Wl.frame r ++ frames l := by simp [frames]
theorem frames_snoc (l : List ByteArray) (r : ByteArray) : frames (l ++ [r]) = frames l ++ Wl.frame r := by simp [frames]
theorem unf_frames {b : ByteArray} (l : List ByteArray) : ∀ n p, (∀ r ∈ l, 1 ≤ r.size ∧ r.size ≤ 2048) → p ≤ b.size → b.size - p ≤ n → rest b p = frames l → Wl.unf b n p = some l := by
  induction l with
  | nil =>
    intro n p _ hp _ h
    have hl := congrArg List.length h
    rw [rest_len9] at hl
    simp [frames] at hl
    exact unf_end (by omega)
  | cons r l ih =>
    intro n p hr hp hn h
    rw [frames_cons] at h
    unfold Wl.frame at h
    rw [List.append_assoc] at h
    have h1 := hr r List.mem_cons_self
    obtain ⟨k0, v0, q0⟩ := text_at9 h h1.2
    have hl := congrArg List.length h
    rw [rest_len9, List.length_append, List.length_append, ← D.size_list] at hl
    have hpos := Pk.enc_pos r.size
    obtain ⟨n', rfl⟩ : ∃ n', n = n' + 1 := ⟨n - 1, by omega⟩
    rw [unf_yes (by omega) ⟨k0, by rw [v0]; omega⟩, v0, q0]
    rw [ih n' _ (fun x hx => hr x (List.mem_cons_of_mem _ hx)) (by omega) (by omega) (by
      unfold rest at h ⊢
      rw [← List.drop_drop, h, ← List.append_assoc, List.drop_left' (by rw [List.length_append, ← D.size_list])])]
    rfl
theorem unframe_frames (l : List ByteArray) (hr : ∀ r ∈ l, 1 ≤ r.size ∧ r.size ≤ 2048) : Wl.unframe ⟨(frames l).toArray⟩ = some l :=
  unf_frames l _ 0 hr (Nat.zero_le _) (Nat.le_refl _) (by simp [rest])
/-- a log stands on its disk -/
structure Con (d : D.DS) (ws : WS) (s : ByteArray) (l : List ByteArray) : Prop where
  ok : d.ok
  wok : Wl.Ok d ws
  live : d.dead = false
  calm : d.left = 0
  head : d.S.getD (ws.h.num % 2) ByteArray.empty = Wl.headB ws.h
  num1 : 1 ≤ ws.h.num
  other : ∀ L, Wl.logOf d.S (1 - ws.h.num % 2) = some L → L.h.num < ws.h.num
  st : Wl.stands d.S ws.h = s.data.toList ++ frames l
  sn : s.size = ws.h.sn
  recs : ∀ r ∈ l, 1 ≤ r.size ∧ r.size ≤ 2048
  rc : ws.rc = l.length
  gone : ws.gone = false
theorem hb_le {d : D.DS} (h : d.ok) : Wl.hb d.S.length ≤ 65536 := by have := hs_le _ h.s1; unfold Wl.hb; omega
theorem Con.log {d : D.DS} {ws : WS} {s : ByteArray} {l : List ByteArray} (h : Con d ws s l) : Wl.logOf d.S (ws.h.num % 2) = some ⟨ws.h, s, l⟩ := by
  have hd : (Wl.stands d.S ws.h).drop ws.h.sn = frames l := by rw [h.st, List.drop_left' (by rw [← D.size_list]; exact h.sn)]
  have ht : (Wl.stands d.S ws.h).take ws.h.sn = s.data.toList := by rw [h.st, List.take_left' (by rw [← D.size_list]; exact h.sn)]
  have := logOf_head (l := l) h.head ⟨h.num1, h.wok.num, h.wok.half, h.wok.sn, h.wok.used⟩ rfl (hb_le h.ok) (by rw [hd]; exact unframe_frames l h.recs)
  rw [this, ht]
theorem Con.find {d : D.DS} {ws : WS} {s : ByteArray} {l : List ByteArray} (h : Con d ws s l) : Wl.find d.S = some ⟨ws.h, s, l⟩ := by
  have h1 := h.log
  have h2 := h.other
  unfold Wl.find
  rcases Nat.mod_two_eq_zero_or_one ws.h.num with e | e
  · rw [e] at h1 h2
    rw [h1]
    cases h3 : Wl.logOf d.S 1 with
    | none => rfl
    | some L => exact if_neg (by have := h2 L h3; show ¬ ws.h.num < L.h.num; omega)
  · rw [e] at h1 h2
    rw [h1]
    cases h3 : Wl.logOf d.S 0 with
    | none => rfl
    | some L => exact if_pos (h2 L h3)
end Go.Proofs.Yteiickpokabmoab
