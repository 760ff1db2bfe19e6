import Derived.Test.YtapcmmljdpallaaSkI
import Derived.Laws.ResultCell
namespace Go.Proofs.Ytapcmmljdpallaa.K
open Go.RowKit Go.MapKept
set_option maxRecDepth 8000

theorem own_low {W : World} {base base' : Nat} {e : TypeId} {size : Nat} {v : Value} {k : Nat} {xs : List Value} (h : W.ownsRow base e size v k xs) (hb : base' ≤ base) : W.ownsRow base' e size v k xs := by
  refine ⟨h.1, ?_⟩
  rcases h.2 with hn | ⟨g, cap, cur, hv, hbg, rest⟩
  · exact .inl hn
  · exact .inr ⟨g, cap, cur, hv, Nat.le_trans hb hbg, rest⟩
theorem own_ne {w : World} {base n size : Nat} {e t : TypeId} {v : Value} {xs : List Value} {B : Nat} {cs : Array Value} (h : w.ownsRow base e size v n xs) (hB : w.heap[B]? = some (.cells cs t (0, 0))) (hne : e ≠ t) (k : Nat) (hk : v.ownBlock = some k) : k ≠ B := fun e1 => by
  obtain ⟨c, hc⟩ := own_type h k hk
  rw [e1, hB] at hc
  injection hc with hc
  injection hc with _ hc
  exact hne hc.symm
theorem results_c1 {fn : Func} {p : Tmp} {ty : TypeId} (h : fn.results = #[.cell p ty]) (tmps : Array Value) (P : Program) (w : World) :
    (results fn tmps).run P w = ((asAddr (tmps.getD p undef)).run P w).andThen fun a w₁ => (loadVar ty a).run P w₁ := by
  simp only [results, h]
  simp [Sem.run_bind, Result.andThen]
theorem results_art {fn : Func} {p : Tmp} (h : fn.results = #[.cell p 49]) (tmps : Array Value) (w : World) (g : Nat) (cs : Array Value) (hp : tmps.getD p undef = .pointer (some ⟨g, 0, none⟩)) (hg : w.heap[g]? = some (.cells cs 49 (0, 0))) (hc : cs.size = 3) :
    (results fn tmps).run Try.prog w = .ok (.agg cs) w := by
  have he := run_loadVar_row (P := Try.prog) w g 49 49 cs (0, 0) _ hg Try.underlying49 rfl (by rw [hc]; kernel_rfl)
  rw [results_c1 h, hp]
  simp [asAddr, he]
set_option maxHeartbeats 1000000 in
theorem tclone_any {base : Nat} {w : World} {v : Value} {l : List ByteArray} (h : w.ownsRow base 9 1 v l.length (tcs l)) (hl : l.length ≤ 1000000000) :
    Calls Try.prog 31 #[v] w fun e w' => ∃ v', e = .returned v' ∧ w'.ownsRow w.heap.size 9 1 v' l.length (tcs l) ∧ Below w.heap.size w w' := by
  obtain ⟨i0, hi0, hz0, hz1, hz2⟩ := info_parts Try.infoS
  rcases own_form h with ⟨rfl, hn⟩ | ⟨g, cap, rfl, hg⟩
  · have HE : Hid (w.ownsRow w.heap.size 9 1 (.slice none 0 0) l.length (tcs l)) := by
      obtain rfl : l = [] := List.length_eq_zero_iff.1 hn
      exact World.ownsRow_nil _ _ _ _
    have he : ∀ w : World, (binOp .eql 26 (.slice none 0 0) (.slice none 0 0)).run Try.prog w = .ok (.bool true) w := fun _ => by kernel_rfl
    clear h hn
    go_enter Try.func31, Try.ntmps31
    go_wp2
    go_ret
    exact ⟨_, rfl, HE.out, Below.refl _ _⟩
  · have HR := hide h
    have he : ∀ w : World, (binOp .eql 26 (.slice (some ⟨g, 0, none⟩) l.length cap) (.slice none 0 0)).run Try.prog w = .ok (.bool false) w := fun _ => by kernel_rfl
    clear h
    go_enter Try.func31, Try.ntmps31
    go_wp2_with (at_builtin; refine wpList_append_own _ rfl _ _ 26 rfl w.heap.size 9 i0 (.string ByteArray.empty) 1 16 Try.underlying26 hi0 hz0 hz1 hz2 rfl (by decide) (.slice (some ⟨w.heap.size, 0, none⟩) 0 0) 0 [] rfl (World.ownsRow_made w #[] 0 (Nat.le_refl _) (by decide) rfl) ⟨g, 0, none⟩ l.length cap (tcs l) rfl (by rw [tcs_len, Nat.mul_one]) (fun j u hu => Lib.cell?_alloc_some _ (HR.out.cells (g := g) rfl j u hu)) (tcs_one l) (by unfold maxLen; omega) (by omega) (by rw [World.size_alloc]; omega) ?_; intro v' w1 hown hgrow hnil)
    go_ret
    rw [Nat.zero_add, List.nil_append] at hown
    exact ⟨_, rfl, hown, ((Below.refl _ w).alloc (Nat.le_refl _) _).grown hgrow (by rw [World.size_alloc]; omega) (fun k hk => by simp only [Value.ownBlock] at hk; injection hk with hk; omega)⟩
set_option maxHeartbeats 1000000 in
/-- an artefact with texts of its own -/
theorem apart_any {w : World} {x : Az} (h : w.ownsRow 0 9 1 x.sl x.pcs.length (tcs x.pcs)) (hl : x.pcs.length ≤ 16) :
    Calls Try.prog 19 #[x.val] w fun e w' => ∃ y : Az, e = .returned y.val ∧ y.job = x.job ∧ y.bdg = x.bdg ∧ y.pcs = x.pcs ∧ w'.ownsRow w.heap.size 9 1 y.sl y.pcs.length (tcs y.pcs) ∧ Below w.heap.size w w' := by
  obtain ⟨xj, xb, ad, cap, pcs⟩ := x
  have b2 := (below_alloc w (.cells #[.int .i64 xj, .int .i64 xb, .slice ad pcs.length cap] 49)).alloc (Nat.le_of_lt (by simp)) (.cells #[.int .i64 0, .int .i64 0, .slice none 0 0] 49)
  simp only at h hl
  have HC := hide (tclone_any (w := (w.alloc (.cells #[.int .i64 xj, .int .i64 xb, .slice ad pcs.length cap] 49)).alloc (.cells #[.int .i64 0, .int .i64 0, .slice none 0 0] 49)) (own_keep h fun k e => b2.block k (h.lt k e).2) (by omega))
  have HB2 := hide b2
  have HA : Hid (((w.alloc (.cells #[.int .i64 xj, .int .i64 xb, .slice ad pcs.length cap] 49)).alloc (.cells #[.int .i64 0, .int .i64 0, .slice none 0 0] 49)).heap[w.heap.size]? = some (.cells #[.int .i64 xj, .int .i64 xb, .slice ad pcs.length cap] 49 (0, 0))) := hide (((below_alloc _ _).block _ (by simp)).trans (heap_alloc_new w _))
  have HR : Hid (((w.alloc (.cells #[.int .i64 xj, .int .i64 xb, .slice ad pcs.length cap] 49)).alloc (.cells #[.int .i64 0, .int .i64 0, .slice none 0 0] 49)).heap[w.heap.size + 1]? = some (.cells #[.int .i64 0, .int .i64 0, .slice none 0 0] 49 (0, 0))) := hide (by
    have := heap_alloc_new (w.alloc (.cells #[.int .i64 xj, .int .i64 xb, .slice ad pcs.length cap] 49)) (.cells #[.int .i64 0, .int .i64 0, .slice none 0 0] 49)
    rw [World.size_alloc] at this
    exact this)
  have hs2 : ((w.alloc (.cells #[.int .i64 xj, .int .i64 xb, .slice ad pcs.length cap] 49)).alloc (.cells #[.int .i64 0, .int .i64 0, .slice none 0 0] 49)).heap.size = w.heap.size + 2 := by simp
  clear h b2
  go_enter Try.func19, Try.ntmps19
  go_wp2_with fail
  generalize (w.alloc (.cells #[.int .i64 xj, .int .i64 xb, .slice ad pcs.length cap] 49)).alloc (.cells #[.int .i64 0, .int .i64 0, .slice none 0 0] 49) = W at *
  refine HC.out.mono ?_
  rintro e w1 ⟨v', rfl, h1, h2⟩
  have H1 := hide h1
  have H2 := hide h2
  obtain ⟨ad1, cap1, hv⟩ := own_slice h1
  subst hv
  have HA1 := hide ((h2.block _ (by omega)).trans HA.out)
  have HR1 := hide ((h2.block _ (by omega)).trans HR.out)
  have hs1 := h2.size
  obtain ⟨a0, a1, a2, az⟩ := K.four_of HA1.out
  obtain ⟨r0, r1, r2, rz⟩ := K.four_of HR1.out
  have az2 := az 2
  have rz0 := rz 0
  have rz1 := rz 1
  have rz2 := rz 2
  clear h1 h2 HA HR az rz
  go_wp2_with fail
  have hR5 : ((((w1.setCell ⟨w.heap.size, 2, none⟩ (.slice ad1 pcs.length cap1)).setCell ⟨w.heap.size + 1, 0, none⟩ (.int .i64 xj)).setCell ⟨w.heap.size + 1, 1, none⟩ (.int .i64 xb)).setCell ⟨w.heap.size + 1, 2, none⟩ (.slice ad1 pcs.length cap1)).heap[w.heap.size + 1]? = some (.cells #[.int .i64 xj, .int .i64 xb, .slice ad1 pcs.length cap1] 49 (0, 0)) := by
    have := HR1.out
    simp only [World.setCell, Array.getElem?_modify]
    rw [this]
    simp
  have hk5 : ∀ k, k ≠ w.heap.size → k ≠ w.heap.size + 1 → ((((w1.setCell ⟨w.heap.size, 2, none⟩ (.slice ad1 pcs.length cap1)).setCell ⟨w.heap.size + 1, 0, none⟩ (.int .i64 xj)).setCell ⟨w.heap.size + 1, 1, none⟩ (.int .i64 xb)).setCell ⟨w.heap.size + 1, 2, none⟩ (.slice ad1 pcs.length cap1)).heap[k]? = w1.heap[k]? := fun k h1 h2 => by
    simp [World.setCell, Array.getElem?_modify, Ne.symm h1, Ne.symm h2]
  refine bodyPost_ret (results_art rfl _ _ (w.heap.size + 1) _ rfl hR5 rfl) rfl ?_
  refine ⟨⟨xj, xb, ad1, cap1, pcs⟩, rfl, rfl, rfl, rfl, ?_, ?_⟩
  · exact own_low (own_keep H1.out fun k e => hk5 k (own_ne H1.out HA1.out (by decide) k e) (own_ne H1.out HR1.out (by decide) k e)) (by omega)
  · have h3 : Below w.heap.size w w1 := HB2.out.trans (H2.out.mono (by omega))
    exact (((h3.setCell (p := ⟨w.heap.size, 2, none⟩) (Nat.le_refl _) _).setCell (p := ⟨w.heap.size + 1, 0, none⟩) (by simp) _).setCell (p := ⟨w.heap.size + 1, 1, none⟩) (by simp) _).setCell (p := ⟨w.heap.size + 1, 2, none⟩) (by simp) _
end Go.Proofs.Ytapcmmljdpallaa.K
