import Derived.Test.YtojghjgbnnkldaaMgAG
import Derived.Test.YtojghjgbnnkldaaMgAI

section
namespace Go.Proofs.Ytojghjgbnnkldaa
open Go.RowKit
theorem hide {p : Prop} (h : p) : Hid p := h
namespace Wl

/-- a head -/
@[ext] structure Hd where
  num : Nat
  half : Nat
  sn : Nat
  lg : Nat
  deriving DecidableEq
def Hd.used (h : Hd) : Nat := h.sn + h.lg
/-- a half's sectors, of a disk of n -/
def hs (n : Nat) : Nat := (n - 2) / 2
def hb (n : Nat) : Nat := hs n * 128
def Fits (n : Nat) : Prop := 1 ≤ hs n ∧ hs n ≤ 512 ∧ n = 2 + 2 * hs n
instance (n : Nat) : Decidable (Fits n) := by unfold Fits; infer_instance
def headL (h : Hd) : List UInt8 := Pk.big8 h.num ++ [UInt8.ofNat h.half] ++ Pk.big8 (h.sn * 4294967296 + h.lg) ++ List.replicate 103 0 ++ Pk.big8 h.num
def headB (h : Hd) : ByteArray := ⟨(headL h).toArray⟩
theorem headL_len (h : Hd) : (headL h).length = 128 := by simp [headL, Pk.big8]
theorem headB_size (h : Hd) : (headB h).size = 128 := by show (headL h).toArray.size = _; rw [List.size_toArray, headL_len]
def parse (s : ByteArray) : Hd := ⟨bitsV s 0, (s.data.toList.getD 8 0).toNat, bitsV (s.extract 9 s.size) 0 / 4294967296, bitsV (s.extract 9 s.size) 0 % 4294967296⟩
def MayBe (h : Hd) (room : Nat) : Prop := 1 ≤ h.num ∧ h.num ≤ 1099511627776 ∧ h.half < 2 ∧ h.sn ≤ 17000 ∧ h.used ≤ room
instance (h : Hd) (room : Nat) : Decidable (MayBe h room) := by unfold MayBe; infer_instance
/-- bytes of the sectors from one on -/
def flat (S : List ByteArray) : List UInt8 := S.flatMap fun s => s.data.toList
def first (n half : Nat) : Nat := 2 + half * hs n
def stands (S : List ByteArray) (h : Hd) : List UInt8 := (flat (S.drop (first S.length h.half))).take h.used
/-- the records of a row of frames -/
def unf (b : ByteArray) : Nat → Nat → Option (List ByteArray)
  | 0, p => if b.size ≤ p then some [] else none
  | n + 1, p => if b.size ≤ p then some [] else if textK b p 2048 = 0 ∧ (textV b p).size ≠ 0 then (unf b n (numQ b p + numV b p)).map (textV b p :: ·) else none
def unframe (b : ByteArray) : Option (List ByteArray) := unf b b.size 0
structure Log where
  h : Hd
  s : ByteArray
  l : List ByteArray
def Front (S : List ByteArray) (k : Nat) (h : Hd) : Prop := MayBe h (hb S.length) ∧ h.num % 2 = k ∧ headB h = S.getD k ByteArray.empty
instance (S : List ByteArray) (k : Nat) (h : Hd) : Decidable (Front S k h) := by unfold Front; infer_instance
def logOf (S : List ByteArray) (k : Nat) : Option Log :=
  if Front S k (parse (S.getD k ByteArray.empty)) then
    (unframe ⟨((stands S (parse (S.getD k ByteArray.empty))).drop (parse (S.getD k ByteArray.empty)).sn).toArray⟩).map fun l => ⟨parse (S.getD k ByteArray.empty), ⟨((stands S (parse (S.getD k ByteArray.empty))).take (parse (S.getD k ByteArray.empty)).sn).toArray⟩, l⟩
  else none
def better : Option Log → Option Log → Option Log
  | a, none => a
  | none, some b => some b
  | some a, some b => if a.h.num < b.h.num then some b else some a
def find (S : List ByteArray) : Option Log := better (logOf S 0) (logOf S 1)
def findE (d : D.DS) : Nat := if d.dead = true then 2 else if ¬ Fits d.S.length then 91 else if (find d.S).isNone then 90 else 0
/-- the longest record that fits -/
def roomF (left : Nat) : Nat → Nat
  | 0 => 0
  | k + 1 => if (Pk.enc (k + 1)).length + (k + 1) ≤ left then k + 1 else roomF left k
def room (n : Nat) (h : Hd) : Nat := roomF (hb n - h.used) (min (hb n - h.used) 2048)
/-- writes, by rising numbers -/
def wsec (d : D.DS) : Nat → List ByteArray → Int × D.DS
  | _, [] => (0, d)
  | k, s :: l => if (d.write k s).1 ≠ 0 then d.write k s else wsec (d.write k s).2 (k + 1) l
def layW (d : D.DS) (k : Nat) (l : List ByteArray) (h : Hd) : Int × D.DS :=
  if (wsec d k l).1 ≠ 0 then wsec d k l else (wsec d k l).2.write (h.num % 2 : Nat) (headB h)
def up (n : Nat) : Nat := (n + 127) / 128
/-- in whole sectors -/
def pad (l : List UInt8) : List UInt8 := l ++ List.replicate (up l.length * 128 - l.length) 0
def sect (l : List UInt8) (k : Nat) : ByteArray := ⟨((l.drop (k * 128)).take 128).toArray⟩
def sects (l : List UInt8) : List ByteArray := (List.range (up l.length)).map (sect (pad l))
/-- a log's state -/
@[ext] structure WS where
  h : Hd
  rc : Nat
  gone : Bool
def frame (r : ByteArray) : List UInt8 := Pk.enc r.size ++ r.data.toList
def place (d : D.DS) (h : Hd) : Nat := first d.S.length h.half + h.used / 128
def ahead (d : D.DS) (h : Hd) : List UInt8 := (d.S.getD (place d h) ByteArray.empty).data.toList.take (h.used % 128)
def done (ws ws' : WS) (r : Int × D.DS) : Int × D.DS × WS := (r.1, r.2, if r.1 = 0 then ws' else if r.1 = 2 then { ws with gone := true } else ws)
def powered (d : D.DS) (ws : WS) (x : Int × D.DS × WS) : Int × D.DS × WS := if ws.gone = true ∨ d.dead = true then (2, d, { ws with gone := true }) else x
def hdA (h : Hd) (r : ByteArray) : Hd := ⟨h.num + 1, h.half, h.sn, h.lg + (frame r).length⟩
def append (d : D.DS) (ws : WS) (r : ByteArray) : Int × D.DS × WS :=
  powered d ws (if r.size < 1 ∨ 2048 < r.size then (92, d, ws) else if room d.S.length ws.h < r.size then (93, d, ws) else if 1099511627776 ≤ ws.h.num then (94, d, ws)
    else done ws ⟨hdA ws.h r, ws.rc + 1, ws.gone⟩ (layW d (place d ws.h) (sects (ahead d ws.h ++ frame r)) (hdA ws.h r)))
def hdS (h : Hd) (s : ByteArray) : Hd := ⟨h.num + 1, 1 - h.half, s.size, 0⟩
def snapshot (d : D.DS) (ws : WS) (s : ByteArray) : Int × D.DS × WS :=
  powered d ws (if min 17000 (hb d.S.length) < s.size then (92, d, ws) else if 1099511627776 ≤ ws.h.num then (94, d, ws)
    else done ws ⟨hdS ws.h s, 0, ws.gone⟩ (layW d (first d.S.length (1 - ws.h.half)) (sects s.data.toList) (hdS ws.h s)))
/-- what may be -/
structure Ok (d : D.DS) (ws : WS) : Prop where
  fits : Fits d.S.length
  num : ws.h.num ≤ 1099511627776
  half : ws.h.half < 2
  sn : ws.h.sn ≤ 17000
  used : ws.h.used ≤ hb d.S.length
  rc : ws.rc ≤ 65536
end Wl
end Go.Proofs.Ytojghjgbnnkldaa
end
