import Derived.Test.YteiickpokabmoabWlF
namespace Go.Proofs.Yteiickpokabmoab
open Go.RowKit Go.Shelf
open Wl (Hd WS Log)

def slLen : Value → Nat
  | .slice _ n _ => n
  | _ => 0
theorem own_len {w : World} {B n : Nat} {e : TypeId} {v : Value} {xs : List Value} (h : w.ownsRow B e 1 v n xs) : slLen v = n := by
  rcases h.2 with ⟨rfl, hn⟩ | ⟨g, cap, cur, rfl, _⟩
  · exact hn.symm
  · rfl
theorem drewN_below (w : World) (n : Nat) : Below w.heap.size w (w.drewN n) := ⟨rfl, rfl, rfl, Nat.le_refl _, fun _ _ => rfl⟩
theorem toList_inj {a b : ByteArray} (h : a.toList = b.toList) : a = b := by
  rw [ByteArray.toList_eq, ByteArray.toList_eq] at h
  exact ByteArray.ext (Array.toList_inj.mp h)
theorem own_lo {w : World} {B n : Nat} {e : TypeId} {v : Value} {xs : List Value} (h : w.ownsRow B e 1 v n xs) {k : Nat} (hk : v.ownBlock = some k) : B ≤ k ∧ k < w.heap.size := by
  rcases h.2 with ⟨rfl, hn⟩ | ⟨g, cap, cur, rfl, hb, hg, _⟩
  · cases hk
  · injection hk with hk; subst hk; exact ⟨hb, lt_of_block hg⟩
theorem size_zero {s : ByteArray} (h : s.size = 0) : s = ⟨#[]⟩ := ByteArray.ext (Array.eq_empty_of_size_eq_zero h)
theorem unf_end {b : ByteArray} {n p : Nat} (h : b.size ≤ p) : Wl.unf b n p = some [] := by cases n <;> simp [Wl.unf, h]
theorem unf_no {b : ByteArray} {n p : Nat} (h : ¬ b.size ≤ p) (h2 : ¬ (textK b p 2048 = 0 ∧ (textV b p).size ≠ 0)) : Wl.unf b n p = none := by
  cases n with
  | zero => simp [Wl.unf, h]
  | succ n => rw [Wl.unf, if_neg h, if_neg h2]
theorem unf_yes {b : ByteArray} {n p : Nat} (h : ¬ b.size ≤ p) (h2 : textK b p 2048 = 0 ∧ (textV b p).size ≠ 0) : Wl.unf b (n + 1) p = (Wl.unf b n (numQ b p + numV b p)).map (textV b p :: ·) := by
  rw [Wl.unf, if_neg h, if_pos h2]
def UPost (w : World) (x : Option (List ByteArray)) (e : Ending) (w' : World) : Prop :=
  Below w.heap.size w w' ∧ match x with
    | some l => ∃ v, e = .returned (.tuple #[v, .bool true]) ∧ w'.ownsRow w.heap.size 9 1 v l.length (l.map .string)
    | none => e = .returned (.tuple #[.slice none 0 0, .bool false])
theorem textK_next {b : ByteArray} {p : Nat} (hp : p ≤ b.size) (h : textK b p 2048 = 0) : p < numQ b p + numV b p ∧ numQ b p + numV b p ≤ b.size ∧ (textV b p).size = numV b p := by
  unfold textK at h
  have h1 : numK b p 2048 23 = 0 := by
    by_cases h2 : numK b p 2048 23 = 0
    · exact h2
    · rw [if_pos h2] at h; exact h
  rw [if_neg (by simp [h1])] at h
  have h3 : ¬ b.size < numQ b p + numV b p := fun k => by rw [if_pos k] at h; exact absurd h (by decide)
  obtain ⟨_, _, h4, h5⟩ := num_parts b p 2048 hp h1
  refine ⟨by omega, by omega, ?_⟩
  unfold textV
  simp; omega
set_option maxHeartbeats 1000000 in
set_option maxRecDepth 8000 in
theorem unframe_any (b : ByteArray) (hb : b.size ≤ 200000) (w : World) : Calls Try.prog 53 #[.string b] w (UPost w (Wl.unframe b)) := by
  obtain ⟨i0, hi0, hz0, hz1, hz2⟩ := info_parts D.Try.infoS
  obtain ⟨U, hU⟩ : ∃ U, Wl.unframe b = U := ⟨_, rfl⟩
  have HU0 : Hid (U = (Wl.unf b b.size 0).map (([] : List ByteArray) ++ ·)) := hide (by rw [← hU]; unfold Wl.unframe; cases Wl.unf b b.size 0 <;> simp)
  rw [hU]
  clear hU
  go_enter Try.func53, Try.ntmps53
  go_wp2_with fail
  refine (read_any b w).mono ?_
  rintro e w1 ⟨rfl, hr1, hb1⟩
  have HR1 := hide hr1
  have HB1 := hide hb1
  have hl1 : w.heap.size < w1.heap.size := lt_of_block hr1
  clear hr1 hb1
  go_wp2_with fail
  go_loopw [4] (fun s wr => ∃ (p n : Nat) (acc : List ByteArray) (v : Value), v = s ∧ p ≤ b.size ∧ acc.length ≤ p ∧ slLen v = acc.length ∧ b.size - p ≤ n ∧ Hid (wr.ownsRow (w.heap.size + 1) 9 1 v acc.length (acc.map .string)) ∧ Hid (Rd wr w.heap.size b (p : Int) 0) ∧ Hid (Below w.heap.size w wr) ∧ Hid (U = (Wl.unf b n p).map (acc ++ ·))) (fun s _ => b.size - slLen s)
  case atStart => exact ⟨0, b.size, [], _, rfl, Nat.zero_le _, Nat.le_refl _, rfl, Nat.le_refl _, hide (World.ownsRow_nil _ _ _ _), HR1, HB1, HU0⟩
  case round =>
    obtain ⟨p, n, acc, v, rfl, hp, hap, hsl, hn, HO, HR, HB, HU⟩ := hrel
    have HL := hide (left_any HR.out (by omega) (by omega) (by omega))
    have HA : Hid (acc.length ≤ p ∧ slLen v = acc.length ∧ b.size - p ≤ n ∧ p ≤ b.size ∧ b.size ≤ 200000) := hide ⟨hap, hsl, hn, hp, hb⟩
    clear HU0 HR1 HB1 hap hsl hn hp
    go_wp2_with fail
    refine HL.out.mono ?_
    rintro e w2 ⟨rfl, nd, rfl⟩
    by_cases hpe : b.size ≤ p
    · have hpi : ¬ 0 < (b.size : Int) - (p : Int) := by omega
      have HP : Hid (U = some acc) := hide (by rw [HU.out, unf_end hpe]; simp)
      have HO2 : Hid ((wr.drewN nd).ownsRow w.heap.size 9 1 v acc.length (acc.map .string)) := hide (D.own_base HO.out (by omega))
      have HB2 : Hid (Below w.heap.size w (wr.drewN nd)) := hide (HB.out.trans ((drewN_below _ nd).mono HB.out.size))
      generalize (b.size : Int) - (p : Int) = x at *
      clear HU HO HB hpe hb HL
      generalize wr.drewN nd = wd at *
      go_wp2_with fail
      go_ret2
      exact ⟨HB2.out, by rw [HP.out]; exact ⟨_, rfl, HO2.out⟩⟩
    · have hpi : 0 < (b.size : Int) - (p : Int) := by omega
      have HR2 : Hid (Rd (wr.drewN nd) w.heap.size b (p : Int) 0) := HR
      have HB2 : Hid (Below w.heap.size w (wr.drewN nd)) := hide (HB.out.trans ((drewN_below _ nd).mono HB.out.size))
      have HO2 : Hid ((wr.drewN nd).ownsRow (w.heap.size + 1) 9 1 v acc.length (acc.map .string)) := HO
      clear HR HB HO HL
      generalize wr.drewN nd = wd at *
      have HT := hide (rtext_any (most := 2048) (by decide) HR2.out HA.out.2.2.2.1 (by omega))
      go_wp2_with fail
      refine HT.out.mono ?_
      intro e w3 hF
      have HB3 : Hid (Below w.heap.size w w3) := hide (HB2.out.grown hF.grown (by have := HB2.out.size; omega) (fun k hk => by injection hk with hk; omega))
      have HO3 : Hid (w3.ownsRow (w.heap.size + 1) 9 1 v acc.length (acc.map .string)) := hide (D.own_keep HO2.out fun k hk => hF.grown.block k (own_lo HO2.out hk).2 (fun h => by injection h with h; have := (own_lo HO2.out hk).1; omega))
      by_cases hk : textK b p 2048 = 0 ∧ (textV b p).size ≠ 0
      · obtain ⟨rfl, hR3⟩ := hF.ok hk.1
        obtain ⟨n', rfl⟩ : ∃ n', n = n' + 1 := ⟨n - 1, by have := HA.out; omega⟩
        obtain ⟨k1, k2, k3⟩ := textK_next HA.out.2.2.2.1 hk.1
        have HU3 : Hid (U = (Wl.unf b n' (numQ b p + numV b p)).map ((acc ++ [textV b p]) ++ ·)) := hide (by
          rw [HU.out, unf_yes hpe hk, Option.map_map]; congr 1; funext x; simp)
        have b0 : ((textV b p).toList == []) = false := beq_eq_false_iff_ne.2 (fun h => hk.2 (by rw [show textV b p = ⟨#[]⟩ from toList_inj (h.trans (by rw [ByteArray.toList_eq]))]; rfl))
        have HR3 := hide hR3
        generalize hP : numQ b p + numV b p = P at *
        generalize textV b p = S at *
        clear hF hk HU HT HR2 HB2 HO2 hR3
        have HKK : Hid (p < P ∧ P ≤ b.size) := hide ⟨k1, k2⟩
        clear k1 k2 k3 hP
        go_wp2_with (at_builtin; refine wpList_append_own _ rfl _ _ 22 rfl (w.heap.size + 1) 9 i0 (.string ByteArray.empty) 1 16 Try.underlying22 hi0 hz0 hz1 hz2 rfl (by decide) v acc.length _ rfl (HO3.out.alloc _) ⟨w3.heap.size, 0, none⟩ 1 1 [.string S] rfl rfl (one_new _ _ _) (by intro u hu; simp at hu; subst hu; rfl) (by have := HA.out; unfold maxLen; omega) (by have := HA.out; omega) (by rw [World.size_alloc]; have := HB3.out.size; omega) ?_; intro va wa howna hgrowa hnila)
        have hA := HA.out
        have hK := HKK.out
        have hl3 : w.heap.size < w3.heap.size := lt_of_block HR3.out
        have hva := own_len howna
        refine ⟨⟨P, n', acc ++ [S], va, rfl, hK.2, by rw [List.length_append, List.length_singleton]; omega, by rw [hva, List.length_append, List.length_singleton], by omega, hide (by rw [List.length_append, List.length_singleton, List.map_append]; exact howna), hide ?_, hide ?_, HU3⟩, by rw [hva]; omega⟩
        · exact ((hgrowa.block _ (by rw [World.size_alloc]; omega) (fun h => by have := (own_lo HO3.out h.symm).1; omega)).trans (Below.heap_alloc _ _ _ hl3)).trans HR3.out
        · exact (HB3.out.alloc (by omega) _).grown hgrowa (by rw [World.size_alloc]; omega) (fun k hk => by have := (own_lo HO3.out hk).1; omega)
      · have HP : Hid (U = none) := hide (by rw [HU.out, unf_no hpe hk]; rfl)
        have he : e = .returned (.string ⟨#[]⟩) := by
          by_cases h0 : textK b p 2048 = 0
          · have h1 : (textV b p).size = 0 := Classical.not_not.mp fun h => hk ⟨h0, h⟩
            rw [(hF.ok h0).1, size_zero h1]
          · exact (hF.no h0).1
        subst he
        clear hF hk HU HT HR2 HB2 HO2 HO3
        go_wp2_with fail
        go_ret2
        exact ⟨HB3.out, by rw [HP.out]; rfl⟩
end Go.Proofs.Yteiickpokabmoab
