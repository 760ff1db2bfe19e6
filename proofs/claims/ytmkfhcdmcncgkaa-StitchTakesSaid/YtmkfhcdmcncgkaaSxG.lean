import Derived.Test.YtmkfhcdmcncgkaaSxF
namespace Go.Proofs.Ytmkfhcdmcncgkaa
open Go.RowKit Go.Shelf

theorem one_new (w : World) (u : Value) (t : TypeId) : ∀ j x, [u][j]? = some x → (w.alloc (.cells #[u] t)).cell? ((⟨w.heap.size, 0, none⟩ : Addr).add j) = some x := by
  intro j x hj
  match j, hj with
  | 0, hj => simp at hj; subst hj; simp [Addr.add]
theorem own_cells' {w : World} {base n size : Nat} {e : TypeId} {v : Value} {xs : List Value} (h : w.ownsRow base e size v n xs) : v.ownBlock = none ∨ ∃ g o, v.ownBlock = some g ∧ w.heap[g]? = some o ∧ Obj.isCells o = true := by
  rcases h.2 with ⟨h1, _⟩ | ⟨g, cap, cur, rfl, _, hg, _⟩
  · exact .inl (by rw [h1]; rfl)
  · exact .inr ⟨g, _, rfl, hg, rfl⟩
theorem own_type {w : World} {base n size : Nat} {e : TypeId} {v : Value} {xs : List Value} (h : w.ownsRow base e size v n xs) (g : Nat) (hg : v.ownBlock = some g) : ∃ cs, w.heap[g]? = some (.cells cs e (0, 0)) := by
  rcases h.2 with ⟨h1, _⟩ | ⟨g', cap, cur, rfl, _, hg', _⟩
  · rw [h1] at hg; cases hg
  · cases hg
    exact ⟨_, hg'⟩
theorem grown_set (w : World) (b o : Nat) (v : Value) : w.grownBy (w.setCell ⟨b, o, none⟩ v) (some b) :=
  ⟨rfl, rfl, rfl, by simp [World.setCell], fun k _ hb => by
    have : b ≠ k := fun e => hb (by rw [e])
    simp [World.setCell, Array.getElem?_modify, this]⟩
theorem below_drewN (w : World) (k : Nat) : Below w.heap.size w (w.drewN k) := ⟨rfl, rfl, rfl, Nat.le_refl _, fun _ _ => rfl⟩
theorem mem_del' {n : Int} {L : List Hx} {p : Hx → Prop} (h : ∀ x ∈ L, p x) : ∀ x ∈ del n L, p x := fun x hx => h x (mem_del.1 hx).1

set_option maxRecDepth 8000 in
set_option maxHeartbeats 4000000 in
theorem handOn_any {w : World} {b m : Nat} {win n : Int} {L : List Hx} (h : Wb w b m win n L) (hk : ∀ x ∈ L, x.no < 32) (hl : L.length ≤ 1000) (h0 : 0 ≤ n) :
    Calls Try.prog 18 #[.pointer (some ⟨b, 0, none⟩)] w fun e w' => ∃ v, e = .returned v ∧ w'.ownsRow w.heap.size 9 1 v (hnd n L).1.length (tcs (hnd n L).1) ∧ Wb w' b m win (hnd n L).2.1 (hnd n L).2.2 ∧ Mv b m w w' := by
  have HW := hide h
  have HK := hide hk
  obtain ⟨iS, hiS, zS0, zS1, zS2⟩ := info_parts Try.infoS
  have HP : Hid (0 ≤ n ∧ L.length ≤ 1000) := hide ⟨h0, hl⟩
  clear h hk hl h0
  go_enter Try.func18, Try.ntmps18
  go_wp2_with fail
  go_loopw [3, 4, 5] (fun u _ _ wr => ∃ (out : List ByteArray) (k : Int) (M : List Hx), Hid (wr.ownsRow w.heap.size 9 1 u out.length (tcs out)) ∧ Hid (Wb wr b m win k M) ∧ Hid (Mv b m w wr) ∧ Hid ((out ++ (hnd k M).1 = (hnd n L).1 ∧ (hnd k M).2 = (hnd n L).2) ∧ (∀ x ∈ M, x.no < 32) ∧ 0 ≤ k ∧ out.length + M.length ≤ 1000)) (fun _ _ _ wr => msize wr m)
  case atStart => exact ⟨[], n, L, World.ownsRow_nil _ _ _ _, HW, Mv.refl _ _ _, ⟨⟨rfl, rfl⟩, HK.out, HP.out.1, by simpa using HP.out.2⟩⟩
  case round =>
    clear HW HK HP
    obtain ⟨out, k, M, HO, HW, HV, HE⟩ := hrel
    obtain ⟨ad, cap, rfl⟩ := own_slice HO.out
    have c1 := HW.out.c1
    have c2 := HW.out.c2
    have hlk := HW.out.map.look k
    cases hb : has k M with
    | false =>
      rw [hb] at hlk
      obtain ⟨tx, htx⟩ : ∃ tx, (fnd k M).tx = tx := ⟨_, rfl⟩
      have hlk2 : ∀ j, (Instr.lookup 50 (.map (some m)) (.int .i64 k) true).run Try.prog (wr.drewN j) = .ok (.tuple #[.string tx, .bool false]) (wr.drewN j) := fun j => by
        have := (HW.out.map.keep (w' := wr.drewN j) rfl).look k
        rw [hb, show (fnd k M).val = .string tx from congrArg Value.string htx] at this
        exact this
      have HH := hide (hnd_no hb)
      clear hlk hb htx
      go_wp2_with fail
      go_quiet (fail)
      go_wp2_with fail
      go_ret
      have e1 := HE.out.1
      rw [HH.out] at e1
      simp only [List.append_nil] at e1
      refine ⟨_, rfl, ?_, ?_, HV.out.drew _⟩
      · rw [← e1.1]
        exact own_below HO.out (below_drewN _ _)
      · rw [← e1.2]
        exact HW.out.keep rfl rfl
    | true =>
      obtain ⟨tx, htx⟩ : ∃ tx, (fnd k M).tx = tx := ⟨_, rfl⟩
      have hlk2 : ∀ j, (Instr.lookup 50 (.map (some m)) (.int .i64 k) true).run Try.prog (wr.drewN j) = .ok (.tuple #[.string tx, .bool true]) (wr.drewN j) := fun j => by
        have := (HW.out.map.keep (w' := wr.drewN j) rfl).look k
        rw [hb, show (fnd k M).val = .string tx from congrArg Value.string htx] at this
        exact this
      have hk32 : k < 32 := by
        have h1 := fnd_mem hb
        have := HE.out.2.1 _ h1.1
        omega
      have hk0 : 0 ≤ k := HE.out.2.2.1
      have HH := hide (hnd_yes hb)
      have HL := hide (del_lt hb)
      rw [htx] at HH
      clear hlk hb htx
      go_wp2_with fail
      go_quiet (fail)
      have HW2 := hide (HW.out.below (below_drewN wr nq))
      have HO2 := hide (own_below HO.out (below_drewN wr nq))
      have HV2 := hide (HV.out.drew nq)
      have HZ : Hid (msize wr m = M.length) := HW.out.map.msize
      clear HW HO HV c1 c2 hlk2
      generalize wr.drewN nq = wa at HW2 HO2 HV2
      obtain ⟨w1, hst, hL1, hg1⟩ := (show Lm wa.drew m M from HW2.out.map).drop k 0
      have hst2 : ∀ ty, (Builtin.delete_ #[50, 3] ty #[.map (some m), .int .i64 k]).run Try.prog wa.drew = .ok (.tuple #[]) w1 := fun _ => hst
      have c1 := HW2.out.c1
      have c2 := HW2.out.c2
      have hg2 : wa.grownBy w1 (some m) := ⟨hg1.os, hg1.tape, hg1.output, hg1.size, hg1.block⟩
      have HW3 := hide (HW2.out.turn hL1 hg2)
      have HV3 := hide (HV2.out.trans (Mv.of_grown hg2))
      have d1 := HW3.out.c1
      have z1 := HW3.out.z 1
      have HO3 : Hid (w1.ownsRow w.heap.size 9 1 (.slice ad out.length cap) out.length (tcs out)) := by
        refine HO2.out.kept hg2 ?_
        rcases own_cells' HO2.out with e | ⟨g, o, e, ho, hc⟩
        · rw [e]; simp
        · rw [e]
          refine .inr fun e2 => ?_
          cases e2
          obtain ⟨es, c, h3⟩ := HW2.out.map.block
          rw [h3] at ho
          cases ho
          cases hc
      have HW4 := hide (HW3.out.set (k + 1))
      have HV4 := hide (HV3.out.trans (Mv.of_set (b := b) (m := m) w1 1 (.int .i64 (k + 1))))
      have hsz : w.heap.size ≤ (w1.setCell ⟨b, 1, none⟩ (.int .i64 (k + 1))).heap.size := HV4.out.size
      have HO4 : Hid ((w1.setCell ⟨b, 1, none⟩ (.int .i64 (k + 1))).ownsRow w.heap.size 9 1 (.slice ad out.length cap) out.length (tcs out)) := by
        refine HO3.out.kept (grown_set w1 b 1 _) ?_
        rcases own_cells' HO3.out with e | ⟨g, o, e, ho, hc⟩
        · rw [e]; simp
        · rw [e]
          refine .inr fun e2 => ?_
          cases e2
          have h3 := own_type HO3.out b e
          obtain ⟨cs, h4⟩ := h3
          have h5 := HW3.out.blk
          rw [h4] at h5
          cases h5
      have hol : out.length ≤ 1000 := by have := HE.out.2.2.2; omega
      clear hst hL1 hg1 hg2 HW2 HO2 HV2 HO3 HV3
      go_wp2_with fail
      go_region
      go_upto_region 7 with (fail)
      generalize w1.setCell ⟨b, 1, none⟩ (.int .i64 (k + 1)) = w2 at *
      have HO5 : Hid ((w2.alloc (.cells #[.string tx] 9)).ownsRow w.heap.size 9 1 (.slice ad out.length cap) out.length (tcs out)) := own_alloc HO4.out _
      have hap : Hid (∀ g, (Value.slice ad out.length cap).ownBlock = some g → w.heap.size ≤ g) := hide fun g e => (HO4.out.lt g e).1
      have HV5 := hide (HV4.out.new (World.grownBy_alloc _ (.cells #[.string tx] 9) none) (by simp))
      clear c1 c2 d1 z1 HW3 hst2
      go_wp2_with (at_builtin; refine wpList_append_lies _ rfl _ _ 43 rfl w.heap.size 9 iS (.string ByteArray.empty) 1 16 Try.underlying43 hiS zS0 zS1 zS2 rfl (by decide) (.slice ad out.length cap) out.length (tcs out) rfl HO5.out ⟨w2.heap.size, 0, none⟩ 1 1 [.string tx] rfl rfl (one_new _ _ _) (by intro u hu; simp at hu; subst hu; rfl) (by decide) (by unfold maxLen; omega) (by omega) (by rw [World.size_alloc]; omega) _ rfl ?_; intro g cap' w7 hown hgrow hat7 hlt7; have HO7 := hide hown; have HG7 := hide hgrow; clear hown hgrow hat7 hlt7)
      have HW7 : Wb w7 b m win (k + 1) (del k M) := by
        have h5 := HW4.out.below (below_alloc w2 (.cells #[.string tx] 9))
        refine h5.keep (HG7.out.block b h5.lt fun e => ?_) (HG7.out.block m h5.map.lt fun e => ?_)
        · obtain ⟨cs, h6⟩ := own_type HO5.out b e.symm
          rw [h5.blk] at h6
          cases h6
        · obtain ⟨cs, h6⟩ := own_type HO5.out m e.symm
          obtain ⟨es, c, h7⟩ := h5.map.block
          rw [h7] at h6
          cases h6
      have e1 := HE.out
      have e2 := HL.out
      rw [HH.out] at e1
      refine ⟨⟨out ++ [tx], k + 1, del k M, ?_, HW7, HV5.out.new HG7.out hap.out, ⟨⟨?_, e1.1.2⟩, mem_del' e1.2.1, by omega, ?_⟩⟩, ?_⟩
      · rw [tcs_snoc, List.length_append]; exact HO7
      · rw [List.append_assoc]; exact e1.1.1
      · have := e1.2.2.2
        rw [List.length_append]
        simp only [List.length_singleton]
        omega
      · rw [HZ.out, HW7.map.msize]; exact e2
end Go.Proofs.Ytmkfhcdmcncgkaa
