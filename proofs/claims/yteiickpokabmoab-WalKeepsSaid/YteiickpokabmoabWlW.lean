import Derived.Test.YteiickpokabmoabWlM
namespace Go.Proofs.Yteiickpokabmoab
open Go.RowKit Go.Shelf
open Wl (Hd WS Log)

theorem fold8_b8 (n : Nat) (h : n < 18446744073709551616) : Pk.fold8 (Pk.big8 n) = n := by
  have e : ∀ x : Nat, (UInt8.ofNat (x % 256)).toNat = x % 256 := fun x => by simp
  simp only [Pk.fold8, Pk.big8, List.foldl_cons, List.foldl_nil, e]
  omega
theorem headB_size (h : Hd) : (Wl.headB h).size = 128 := Wl.headB_size h
theorem headB_list (h : Hd) : (Wl.headB h).data.toList = Wl.headL h := rfl
theorem parse_head (h : Hd) (h0 : h.num < 18446744073709551616) (h1 : h.half < 256) (h2 : h.sn < 4294967296) (h3 : h.lg < 4294967296) : Wl.parse (Wl.headB h) = h := by
  have e1 : bitsV (Wl.headB h) 0 = h.num := by
    unfold bitsV rest
    rw [headB_list, show ((Wl.headL h).drop 0).take 8 = Pk.big8 h.num from rfl, fold8_b8 _ h0]
  have e2 : bitsV ((Wl.headB h).extract 9 (Wl.headB h).size) 0 = h.sn * 4294967296 + h.lg := by
    unfold bitsV rest
    rw [headB_size, show ((Wl.headB h).extract 9 128).data.toList = ((Wl.headL h).drop 9).take 119 by simp [Wl.headB], List.drop_zero, List.take_take, show min 8 119 = 8 from rfl, show ((Wl.headL h).drop 9).take 8 = Pk.big8 (h.sn * 4294967296 + h.lg) from rfl, fold8_b8 _ (by omega)]
  have e3 : ((Wl.headB h).data.toList.getD 8 0).toNat = h.half := by
    rw [headB_list, show (Wl.headL h).getD 8 0 = UInt8.ofNat h.half from rfl]; simp; omega
  unfold Wl.parse
  rw [e1, e2, e3]
  ext
  · rfl
  · rfl
  · show (h.sn * 4294967296 + h.lg) / 4294967296 = h.sn; omega
  · show (h.sn * 4294967296 + h.lg) % 4294967296 = h.lg; omega
/-- a sector of noughts is no head -/
theorem parse_zero : (Wl.parse D.zsec).num = 0 := by decide
theorem logOf_zero {S : List ByteArray} {k : Nat} (h : S.getD k ByteArray.empty = D.zsec) : Wl.logOf S k = none := by
  refine if_neg fun hf => ?_
  have := hf.1.1
  rw [h, parse_zero] at this
  omega
theorem find_fresh (n : Nat) (hn : 2 ≤ n) : Wl.find (List.replicate n D.zsec) = none := by
  have g : ∀ k, k < 2 → (List.replicate n D.zsec).getD k ByteArray.empty = D.zsec := fun k hk => by
    rw [List.getD_eq_getElem?_getD, List.getElem?_replicate, if_pos (by omega)]; rfl
  unfold Wl.find
  rw [logOf_zero (g 0 (by omega)), logOf_zero (g 1 (by omega))]
  rfl
theorem logOf_head {S : List ByteArray} {k : Nat} {h : Hd} (hS : S.getD k ByteArray.empty = Wl.headB h) (hm : Wl.MayBe h (Wl.hb S.length)) (hk : h.num % 2 = k) (hh : Wl.hb S.length ≤ 65536) {l : List ByteArray} (hu : Wl.unframe ⟨((Wl.stands S h).drop h.sn).toArray⟩ = some l) :
    Wl.logOf S k = some ⟨h, ⟨((Wl.stands S h).take h.sn).toArray⟩, l⟩ := by
  have hus := hm.2.2.2.2
  unfold Hd.used at hus
  have hp : Wl.parse (S.getD k ByteArray.empty) = h := by rw [hS]; exact parse_head h (by have := hm.2.1; omega) (by have := hm.2.2.1; omega) (by omega) (by omega)
  rw [logOf_yes (by rw [hp]; exact ⟨hm, hk, hS.symm⟩), hp, hu]
  rfl
end Go.Proofs.Yteiickpokabmoab
