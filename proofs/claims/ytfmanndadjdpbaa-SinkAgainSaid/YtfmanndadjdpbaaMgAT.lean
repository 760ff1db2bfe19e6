import Derived.Test.YtfmanndadjdpbaaMgAR
import Derived.Test.YtfmanndadjdpbaaMgAS
import Derived.Laws.ResultCell

section
namespace Go.Proofs.Ytfmanndadjdpbaa.K
open Go.RowKit Go.Shelf Go.Sort

theorem own_form {w : World} {B : Nat} {e : TypeId} {size n : Nat} {v : Value} {xs : List Value} (h : w.ownsRow B e size v n xs) : (v = .slice none 0 0 ∧ n = 0) ∨ ∃ g cap, v = .slice (some ⟨g, 0, none⟩) n cap ∧ g < w.heap.size := by
  rcases h.2 with h1 | ⟨g, cap, cur, rfl, hg, hh, _⟩
  · exact .inl h1
  · exact .inr ⟨g, cap, rfl, lt_blk hh⟩
instance : Inhabited Az := ⟨az0⟩
set_option maxHeartbeats 1000000 in
theorem byBadge_any (x y : Az) (W : World) : Calls Try.prog 16 #[x.val, y.val] W fun e w' => e = .returned (.int .i64 (Lib.compareInt x.job y.job)) ∧ ∃ q os', w' = grow (W.drewN q) os' := by
  have hcon := fun W' => Try.cmp_Compare_int x.job y.job W'
  generalize Lib.compareInt x.job y.job = r at hcon ⊢
  go_enter Try.func16, Try.ntmps16
  go_wp2_with (go_at_call 17; refine (hcon _).mono ?_; rintro e w' ⟨rfl, rfl⟩)
  go_ret
  exact ⟨rfl, 0, _, by rw [alloc_eq_grow, alloc_eq_grow, grow_grow]; rfl⟩
theorem cmpLays (blk off size : Nat) (w : World) : CmpLays Try.prog 16 #[] Az.cs 3 (fun x y => Lib.compareInt x.job y.job) blk off size w := fun _ _ _ _ x y => byBadge_any x y _
theorem ltB (x y : Az) : ltOf (fun x y : Az => Lib.compareInt x.job y.job) x y = decide (x.job < y.job) := by
  unfold ltOf Lib.compareInt
  by_cases h1 : x.job < y.job
  · simp [h1]
  · by_cases h2 : y.job < x.job <;> simp [h1, h2]
theorem swoB : SWO (ltOf fun x y : Az => Lib.compareInt x.job y.job) where
  irrefl x := by rw [ltB]; simp
  trans x y z h1 h2 := by rw [ltB] at *; simp at *; omega
  ntrans x y z h1 h2 := by rw [ltB] at *; simp at *; omega
theorem lenB (n : Nat) (W : World) (h : n ≤ 12) : Calls Try.prog 24 #[.int .u64 n] W fun e w' => (∃ l : Int, e = .returned (.int .i64 l)) ∧ w' = W :=
  (Try.bits_Len n W (by omega) (by omega)).mono fun _ _ ⟨he, hw⟩ => ⟨⟨_, he⟩, hw⟩

theorem flat_at (d : Array Az) (i k : Nat) (hi : i < d.size) (hk : k < 3) : (flatK Az.cs 3 d)[i * 3 + k]! = (d[i].cs)[k]! := by
  rw [get_flatK _ _ _ _ (by omega), show (i * 3 + k) / 3 = i by omega, show (i * 3 + k) % 3 = k by omega, getElem!_pos d i hi]
/-- a row of one's own holds -/
theorem holds_own {w : World} {base g cap : Nat} {ys : List Az} (h : w.ownsRow base 40 3 (.slice (some ⟨g, 0, none⟩) ys.length cap) ys.length (acs ys)) : HoldsK Az.cs 3 w g 0 ys.toArray := by
  intro j hj
  rw [size_flatK] at hj
  simp only [List.size_toArray] at hj
  obtain ⟨i, k, hi, hk, rfl⟩ : ∃ i k, i < ys.length ∧ k < 3 ∧ j = i * 3 + k := ⟨j / 3, j % 3, by omega, by omega, by omega⟩
  rw [flat_at _ _ _ (by simpa using hi) hk]
  have h1 := acs_get ys i k hi hk
  obtain ⟨u, hu⟩ : ∃ u, (ys[i]).cs[k]? = some u := ⟨_, List.getElem?_eq_getElem (show k < 3 from hk)⟩
  rw [hu] at h1
  have h2 := h.cells (g := g) rfl (i * 3 + k) u h1
  rw [Addr.add_lit] at h2
  have h3 : (ys.toArray[i]'(by simpa using hi)).cs[k]! = u := by
    simp only [List.getElem_toArray]
    rw [List.getElem!_eq_getElem?_getD, hu]; rfl
  rw [h3]
  refine ⟨h2, ?_⟩
  rcases h.2 with ⟨h1, _⟩ | ⟨g', cap', cur, h1, _, hg, _⟩
  · cases h1
  · injection h1 with h1
    injection h1 with h1
    injection h1 with h1
    subst h1
    simp [World.frozen?, hg]
/-- what holds is read -/
theorem rs_holds {w : World} {g : Nat} {d : Array Az} (h : HoldsK Az.cs 3 w g 0 d) : Rs w (some ⟨g, 0, none⟩) g 0 d.toList := by
  refine ⟨fun _ => rfl, fun i hi k hk => ?_⟩
  simp only [Array.length_toList] at hi
  have h1 := (h (i * 3 + k) (by rw [size_flatK]; omega)).1
  rw [flat_at _ _ _ hi hk] at h1
  rw [show (⟨g, 0 + i * 3 + k, none⟩ : Addr) = ⟨g, 0 + (i * 3 + k), none⟩ by rw [Nat.add_assoc], h1, Array.getElem_toList]
  obtain ⟨u, hu⟩ : ∃ u, (d[i]).cs[k]? = some u := ⟨_, List.getElem?_eq_getElem (show k < 3 from hk)⟩
  rw [List.getElem!_eq_getElem?_getD, hu]
  rfl
theorem sorted_world {w : World} {g n : Nat} {d : Array Az} {os : Array Obj} : w.grownBy (sortWorldK Az.cs 3 w g 0 n d os) (some g) := by
  refine ⟨rfl, rfl, rfl, size_sortWorldK_c _ _ _ _ _ _ _ _, fun k hk hne => ?_⟩
  have hne' : k ≠ g := fun e => hne (by rw [e])
  unfold sortWorldK putRowK putRow mapBlock grow Sort.ahead
  show ((w.heap.modify g _) ++ os)[k]? = _
  rw [Array.getElem?_append_left (by rw [Array.size_modify]; exact hk), Array.getElem?_modify, if_neg (fun e => hne' e.symm)]
theorem rise_of_sorted {L : List Az} (hL : Rise L) {d : Array Az} (hp : d.toList.Perm L) (hs : SortedIn (ltOf fun x y : Az => Lib.compareInt x.job y.job) 0 d.size d) : d.toList = L := by
  refine rise_eq ?_ hL hp
  refine List.pairwise_iff_getElem.2 fun i j hi hj hij => ?_
  simp only [Array.length_toList] at hi hj
  have h1 := hs i j (Nat.zero_le _) hij hj
  rw [ltB, getElem!_pos d i hi, getElem!_pos d j hj] at h1
  simp only [decide_eq_false_iff_not, Int.not_lt] at h1
  rw [Array.getElem_toList, Array.getElem_toList]
  have hnd : d.toList.Pairwise (fun a b => a.job ≠ b.job) := (hp.pairwise_iff (fun {a b} h => Ne.symm h)).2 (hL.imp fun h => by omega)
  have h2 := List.pairwise_iff_getElem.1 hnd i j (by simpa using hi) (by simpa using hj) hij
  rw [Array.getElem_toList, Array.getElem_toList] at h2
  omega

set_option maxHeartbeats 1000000 in
/-- slices.SortFunc of at most twelve leases -/
theorem sortFunc_any {w : World} {base : Nat} {v : Value} {ys L : List Az} (h : w.ownsRow base 40 3 v ys.length (acs ys)) (hp : ys.Perm L) (hL : Rise L) (hl : L.length ≤ 12) (hne : L ≠ []) :
    Calls Try.prog 15 #[v, .func (.func 16) #[] #[]] w fun e w' => e = .returned (.tuple #[]) ∧ ∃ g cap, v = .slice (some ⟨g, 0, none⟩) L.length cap ∧ base ≤ g ∧ Rs w' (some ⟨g, 0, none⟩) g 0 L ∧ w.grownBy w' (some g) := by
  have hlen := hp.length_eq
  rcases own_form h with ⟨rfl, hz⟩ | ⟨g, cap, rfl, hg⟩
  · exact absurd (List.eq_nil_of_length_eq_zero (by omega)) hne
  · have eg : ∀ args w, (callFunc 16 args).run Try.prog w = .ok (.enter 16 args) w := enters_of Try.func16 (by kernel_rfl) rfl
    have hcon := AnyQ.slices_SortFunc_small_sorted Try.sortL 3 Try.isAgg40 Try.sizeOf40 Az.cs (fun _ => rfl) (fun x u hu => acs_one_cell [x] u (by rw [acs_one]; exact hu)) (fun x y => Lib.compareInt x.job y.job) 16 #[] swoB g 0 cap ys.toArray w eg (cmpLays g 0 _ w) (holds_own h) hg (by simp; omega) lenB
    refine Calls.mono hcon ?_
    rintro e w' ⟨rfl, d', n, os, hpm, hs, rfl⟩
    obtain ⟨hsz, _, hpp⟩ := hpm
    simp only [List.size_toArray] at hsz hs
    have hpp' : d'.toList.Perm ys := by
      have e1 : (d'.extract 0 ys.toArray.size) = d' := by rw [List.size_toArray, ← hsz]; exact Array.extract_size
      rw [e1] at hpp
      simpa using hpp
    have hdL := rise_of_sorted hL (hpp'.trans hp) (by rw [hsz]; exact hs)
    refine ⟨rfl, g, cap, by rw [hlen], (h.lt g rfl).1, ?_, sorted_world⟩
    rw [← hdL]
    exact rs_holds (holdsK_sortWorldK_c Az.cs 3 w g 0 ys.toArray d' n os (holds_own h) hg (by simpa using hsz))
set_option maxHeartbeats 2000000 in
theorem insNil (W : World) (ad : Option Addr) (cap : Nat) (fv : Value) : Calls Try.prog 34 #[.slice ad 0 cap, .int .i64 0, .int .i64 0, fv] W fun e w' => e = .returned (.tuple #[]) ∧ w' = W := by
  go_enter Try.func34, Try.ntmps34
  go_wp2
  refine wp_loop_rounds 1 ?_
  rw [rounds_succ]
  go_wp2
  go_end0
  exact ⟨rfl, rfl⟩
set_option maxHeartbeats 2000000 in
theorem pdqNil (W : World) (ad : Option Addr) (cap : Nat) (lim : Int) (fv : Value) : Calls Try.prog 23 #[.slice ad 0 cap, .int .i64 0, .int .i64 0, .int .i64 lim, fv] W fun e w' => e = .returned (.tuple #[]) ∧ w' = W := by
  go_enter Try.func23, Try.ntmps23
  go_wp2
  refine wp_loop_rounds 1 ?_
  rw [rounds_succ]
  go_wp2_with (go_at_call 34; refine (insNil _ _ _ _).mono ?_; rintro e w' ⟨rfl, rfl⟩)
  (try simp only [Exit.inBlock, Exit.then]); refine bodyPost_ret (results_none rfl _ _ _) rfl ?_
  exact ⟨rfl, rfl⟩
set_option maxHeartbeats 2000000 in
theorem sortNil (W : World) (ad : Option Addr) (cap : Nat) (fv : Value) : Calls Try.prog 15 #[.slice ad 0 cap, fv] W fun e w' => e = .returned (.tuple #[]) ∧ w' = W := by
  have hl : ∀ W, Calls Try.prog 24 #[.int .u64 0] W fun e w' => e = .returned (.int .i64 (Lib.bitLen 0 : Nat)) ∧ w' = W := fun W => Try.bits_Len 0 W (by omega) (by omega)
  go_enter Try.func15, Try.ntmps15
  go_wp2_with (first | (go_at_call 24; refine (hl _).mono ?_; rintro e w' ⟨rfl, rfl⟩) | (go_at_call 23; refine (pdqNil _ _ _ _ _).mono ?_; rintro e w' ⟨rfl, rfl⟩))
  go_end0
  exact ⟨rfl, rfl⟩

end Go.Proofs.Ytfmanndadjdpbaa.K
end

section
namespace Go.Proofs.Ytfmanndadjdpbaa.K
open Go.RowKit Go.MapKept
set_option maxRecDepth 8000

theorem own_low {W : World} {base base' : Nat} {e : TypeId} {size : Nat} {v : Value} {k : Nat} {xs : List Value} (h : W.ownsRow base e size v k xs) (hb : base' ≤ base) : W.ownsRow base' e size v k xs := by
  refine ⟨h.1, ?_⟩
  rcases h.2 with hn | ⟨g, cap, cur, hv, hbg, rest⟩
  · exact .inl hn
  · exact .inr ⟨g, cap, cur, hv, Nat.le_trans hb hbg, rest⟩
theorem own_ne {w : World} {base n size : Nat} {e t : TypeId} {v : Value} {xs : List Value} {B : Nat} {cs : Array Value} (h : w.ownsRow base e size v n xs) (hB : w.heap[B]? = some (.cells cs t (0, 0))) (hne : e ≠ t) (k : Nat) (hk : v.ownBlock = some k) : k ≠ B := fun e1 => by
  obtain ⟨c, hc⟩ := own_type h k hk
  rw [e1, hB] at hc
  injection hc with hc
  injection hc with _ hc
  exact hne hc.symm
theorem results_c1 {fn : Func} {p : Tmp} {ty : TypeId} (h : fn.results = #[.cell p ty]) (tmps : Array Value) (P : Program) (w : World) :
    (results fn tmps).run P w = ((asAddr (tmps.getD p undef)).run P w).andThen fun a w₁ => (loadVar ty a).run P w₁ := by
  simp only [results, h]
  simp [Sem.run_bind, Result.andThen]
theorem results_art {fn : Func} {p : Tmp} (h : fn.results = #[.cell p 40]) (tmps : Array Value) (w : World) (g : Nat) (cs : Array Value) (hp : tmps.getD p undef = .pointer (some ⟨g, 0, none⟩)) (hg : w.heap[g]? = some (.cells cs 40 (0, 0))) (hc : cs.size = 3) :
    (results fn tmps).run Try.prog w = .ok (.agg cs) w := by
  have he := run_loadVar_row (P := Try.prog) w g 40 40 cs (0, 0) _ hg Try.underlying40 rfl (by rw [hc]; kernel_rfl)
  rw [results_c1 h, hp]
  simp [asAddr, he]
set_option maxHeartbeats 1000000 in
theorem tclone_any {base : Nat} {w : World} {v : Value} {l : List ByteArray} (h : w.ownsRow base 9 1 v l.length (tcs l)) (hl : l.length ≤ 1000000000) :
    Calls Try.prog 22 #[v] w fun e w' => ∃ v', e = .returned v' ∧ w'.ownsRow w.heap.size 9 1 v' l.length (tcs l) ∧ Below w.heap.size w w' := by
  obtain ⟨i0, hi0, hz0, hz1, hz2⟩ := info_parts Try.infoS
  rcases own_form h with ⟨rfl, hn⟩ | ⟨g, cap, rfl, hg⟩
  · have HE : Hid (w.ownsRow w.heap.size 9 1 (.slice none 0 0) l.length (tcs l)) := by
      obtain rfl : l = [] := List.length_eq_zero_iff.1 hn
      exact World.ownsRow_nil _ _ _ _
    have he : ∀ w : World, (binOp .eql 38 (.slice none 0 0) (.slice none 0 0)).run Try.prog w = .ok (.bool true) w := fun _ => by kernel_rfl
    clear h hn
    go_enter Try.func22, Try.ntmps22
    go_wp2
    go_ret
    exact ⟨_, rfl, HE.out, Below.refl _ _⟩
  · have HR := hide h
    have he : ∀ w : World, (binOp .eql 38 (.slice (some ⟨g, 0, none⟩) l.length cap) (.slice none 0 0)).run Try.prog w = .ok (.bool false) w := fun _ => by kernel_rfl
    clear h
    go_enter Try.func22, Try.ntmps22
    go_wp2_with (at_builtin; refine wpList_append_own _ rfl _ _ 38 rfl w.heap.size 9 i0 (.string ByteArray.empty) 1 16 Try.underlying38 hi0 hz0 hz1 hz2 rfl (by decide) (.slice (some ⟨w.heap.size, 0, none⟩) 0 0) 0 [] rfl (World.ownsRow_made w #[] 0 (Nat.le_refl _) (by decide) rfl) ⟨g, 0, none⟩ l.length cap (tcs l) rfl (by rw [tcs_len, Nat.mul_one]) (fun j u hu => Lib.cell?_alloc_some _ (HR.out.cells (g := g) rfl j u hu)) (tcs_one l) (by unfold maxLen; omega) (by omega) (by rw [World.size_alloc]; omega) ?_; intro v' w1 hown hgrow hnil)
    go_ret
    rw [Nat.zero_add, List.nil_append] at hown
    exact ⟨_, rfl, hown, ((Below.refl _ w).alloc (Nat.le_refl _) _).grown hgrow (by rw [World.size_alloc]; omega) (fun k hk => by simp only [Value.ownBlock] at hk; injection hk with hk; omega)⟩
set_option maxHeartbeats 1000000 in
/-- an artefact with texts of its own -/
theorem apart_any {w : World} {x : Az} (h : w.ownsRow 0 9 1 x.sl x.pcs.length (tcs x.pcs)) (hl : x.pcs.length ≤ 16) :
    Calls Try.prog 14 #[x.val] w fun e w' => ∃ y : Az, e = .returned y.val ∧ y.job = x.job ∧ y.bdg = x.bdg ∧ y.pcs = x.pcs ∧ w'.ownsRow w.heap.size 9 1 y.sl y.pcs.length (tcs y.pcs) ∧ Below w.heap.size w w' := by
  obtain ⟨xj, xb, ad, cap, pcs⟩ := x
  have b2 := (below_alloc w (.cells #[.int .i64 xj, .int .i64 xb, .slice ad pcs.length cap] 40)).alloc (Nat.le_of_lt (by simp)) (.cells #[.int .i64 0, .int .i64 0, .slice none 0 0] 40)
  simp only at h hl
  have HC := hide (tclone_any (w := (w.alloc (.cells #[.int .i64 xj, .int .i64 xb, .slice ad pcs.length cap] 40)).alloc (.cells #[.int .i64 0, .int .i64 0, .slice none 0 0] 40)) (own_keep h fun k e => b2.block k (h.lt k e).2) (by omega))
  have HB2 := hide b2
  have HA : Hid (((w.alloc (.cells #[.int .i64 xj, .int .i64 xb, .slice ad pcs.length cap] 40)).alloc (.cells #[.int .i64 0, .int .i64 0, .slice none 0 0] 40)).heap[w.heap.size]? = some (.cells #[.int .i64 xj, .int .i64 xb, .slice ad pcs.length cap] 40 (0, 0))) := hide (((below_alloc _ _).block _ (by simp)).trans (heap_alloc_new w _))
  have HR : Hid (((w.alloc (.cells #[.int .i64 xj, .int .i64 xb, .slice ad pcs.length cap] 40)).alloc (.cells #[.int .i64 0, .int .i64 0, .slice none 0 0] 40)).heap[w.heap.size + 1]? = some (.cells #[.int .i64 0, .int .i64 0, .slice none 0 0] 40 (0, 0))) := hide (by
    have := heap_alloc_new (w.alloc (.cells #[.int .i64 xj, .int .i64 xb, .slice ad pcs.length cap] 40)) (.cells #[.int .i64 0, .int .i64 0, .slice none 0 0] 40)
    rw [World.size_alloc] at this
    exact this)
  have hs2 : ((w.alloc (.cells #[.int .i64 xj, .int .i64 xb, .slice ad pcs.length cap] 40)).alloc (.cells #[.int .i64 0, .int .i64 0, .slice none 0 0] 40)).heap.size = w.heap.size + 2 := by simp
  clear h b2
  go_enter Try.func14, Try.ntmps14
  go_wp2_with fail
  generalize (w.alloc (.cells #[.int .i64 xj, .int .i64 xb, .slice ad pcs.length cap] 40)).alloc (.cells #[.int .i64 0, .int .i64 0, .slice none 0 0] 40) = W at *
  refine HC.out.mono ?_
  rintro e w1 ⟨v', rfl, h1, h2⟩
  have H1 := hide h1
  have H2 := hide h2
  obtain ⟨ad1, cap1, hv⟩ := own_slice h1
  subst hv
  have HA1 := hide ((h2.block _ (by omega)).trans HA.out)
  have HR1 := hide ((h2.block _ (by omega)).trans HR.out)
  have hs1 := h2.size
  obtain ⟨a0, a1, a2, az⟩ := K.four_of HA1.out
  obtain ⟨r0, r1, r2, rz⟩ := K.four_of HR1.out
  have az2 := az 2
  have rz0 := rz 0
  have rz1 := rz 1
  have rz2 := rz 2
  clear h1 h2 HA HR az rz
  go_wp2_with fail
  have hR5 : ((((w1.setCell ⟨w.heap.size, 2, none⟩ (.slice ad1 pcs.length cap1)).setCell ⟨w.heap.size + 1, 0, none⟩ (.int .i64 xj)).setCell ⟨w.heap.size + 1, 1, none⟩ (.int .i64 xb)).setCell ⟨w.heap.size + 1, 2, none⟩ (.slice ad1 pcs.length cap1)).heap[w.heap.size + 1]? = some (.cells #[.int .i64 xj, .int .i64 xb, .slice ad1 pcs.length cap1] 40 (0, 0)) := by
    have := HR1.out
    simp only [World.setCell, Array.getElem?_modify]
    rw [this]
    simp
  have hk5 : ∀ k, k ≠ w.heap.size → k ≠ w.heap.size + 1 → ((((w1.setCell ⟨w.heap.size, 2, none⟩ (.slice ad1 pcs.length cap1)).setCell ⟨w.heap.size + 1, 0, none⟩ (.int .i64 xj)).setCell ⟨w.heap.size + 1, 1, none⟩ (.int .i64 xb)).setCell ⟨w.heap.size + 1, 2, none⟩ (.slice ad1 pcs.length cap1)).heap[k]? = w1.heap[k]? := fun k h1 h2 => by
    simp [World.setCell, Array.getElem?_modify, Ne.symm h1, Ne.symm h2]
  refine bodyPost_ret (results_art rfl _ _ (w.heap.size + 1) _ rfl hR5 rfl) rfl ?_
  refine ⟨⟨xj, xb, ad1, cap1, pcs⟩, rfl, rfl, rfl, rfl, ?_, ?_⟩
  · exact own_low (own_keep H1.out fun k e => hk5 k (own_ne H1.out HA1.out (by decide) k e) (own_ne H1.out HR1.out (by decide) k e)) (by omega)
  · have h3 : Below w.heap.size w w1 := HB2.out.trans (H2.out.mono (by omega))
    exact (((h3.setCell (p := ⟨w.heap.size, 2, none⟩) (Nat.le_refl _) _).setCell (p := ⟨w.heap.size + 1, 0, none⟩) (by simp) _).setCell (p := ⟨w.heap.size + 1, 1, none⟩) (by simp) _).setCell (p := ⟨w.heap.size + 1, 2, none⟩) (by simp) _
end Go.Proofs.Ytfmanndadjdpbaa.K
end

section
namespace Go.Proofs.Ytfmanndadjdpbaa.K
open Go.RowKit Go.MapKept Go.Shelf
set_option maxRecDepth 8000

/-- without its slice -/
def cl (x : Az) : Az := ⟨x.job, x.bdg, none, 0, x.pcs⟩
theorem rise_cl {L : List Az} (h : Rise L) : Rise (L.map cl) := List.pairwise_map.2 h
theorem has_rise : ∀ (Y : List Az), Y.Pairwise (fun a b => a.job ≠ b.job) → ∃ L, Y.Perm L ∧ Rise L
  | [], _ => ⟨[], .refl _, .nil⟩
  | x :: Y, h => by
    obtain ⟨h1, h2⟩ := List.pairwise_cons.1 h
    obtain ⟨L, hp, hr⟩ := has_rise Y h2
    exact ⟨ins x L, (hp.cons x).trans (ins_perm x L).symm, ins_rise hr fun y hy => Ne.symm (h1 y (hp.mem_iff.2 hy))⟩
theorem rise_len {c : Int} : ∀ {L : List Az} {a : Int}, a < c → Rise L → (∀ x ∈ L, a < x.job ∧ x.job < c) → (L.length : Int) ≤ c - a - 1
  | [], a, h, _, _ => by simp; omega
  | x :: l, a, h, hr, hx => by
    obtain ⟨h1, h2⟩ := List.pairwise_cons.1 hr
    obtain ⟨h3, h4⟩ := hx x (.head _)
    have := rise_len (a := x.job) h4 h2 fun y hy => ⟨h1 y hy, (hx y (.tail _ hy)).2⟩
    rw [List.length_cons]
    omega
theorem Sb.len {w : World} {b m : Nat} {A : List Az} {tv : Value} {T : List Ev} {j : Int} (h : Sb w b m A tv T j) : A.length ≤ 8 := by
  have := rise_len (a := 0) (c := 9) (by decide) h.map.1 fun x hx => by have := h.ok x hx; omega
  omega
theorem Mi.grown {w w' : World} {m r : Nat} {L rest : List Az} {row : Option Nat} (h : Mi w m r L rest) (hg : w.grownBy w' row) (hr : ∀ k, row = some k → ∃ cs t f, w.heap[k]? = some (.cells cs t f)) : Mi w' m r L rest := by
  refine h.keep (hg.block m h.lm.lt fun e => ?_) (hg.block r h.rlt fun e => ?_)
  · obtain ⟨cs, t, f, h1⟩ := hr m e.symm
    obtain ⟨es, c, h2⟩ := h.lm.block
    rw [h1] at h2
    cases h2
  · obtain ⟨cs, t, f, h1⟩ := hr r e.symm
    obtain ⟨o, h2, h3⟩ := h.iter
    rw [h1] at h2
    cases h2
    cases h3
theorem Mi.below {w w' : World} {m r : Nat} {L rest : List Az} (h : Mi w m r L rest) (hb : Below w.heap.size w w') : Mi w' m r L rest := h.keep (hb.block m h.lm.lt) (hb.block r h.rlt)
theorem Mi.same {w w' : World} {m r : Nat} {L rest : List Az} (h : Mi w m r L rest) (hh : w'.heap = w.heap) : Mi w' m r L rest := h.keep (by rw [hh]) (by rw [hh])
theorem acs_snoc (l : List Az) (x : Az) : acs (l ++ [x]) = acs l ++ x.cs := by rw [acs_append, acs_one]
/-- what Artefacts has gathered -/
structure Ga (w : World) (m : Nat) (A : List Az) (v : Value) (Y rest : List Az) (W : World) : Prop where
  row : W.ownsRow w.heap.size 40 3 v Y.length (acs Y)
  pcs : ∀ y ∈ Y, W.ownsRow w.heap.size 9 1 y.sl y.pcs.length (tcs y.pcs)
  mi : Mi W m w.heap.size A rest
  low : Below w.heap.size w W
  perm : (Y.map cl ++ rest.map cl).Perm (A.map cl)
  mem : ∀ x ∈ rest, x ∈ A
/-- what Artefacts answers -/
def ArP (A : List Az) (w : World) (e : Ending) (w' : World) : Prop :=
  ∃ ad g cap Y, e = .returned (.slice ad Y.length cap) ∧ Rs w' ad g 0 Y ∧ Y.map cl = A.map cl ∧ (∀ y ∈ Y, w'.ownsRow w.heap.size 9 1 y.sl y.pcs.length (tcs y.pcs)) ∧ (0 < Y.length → w.heap.size ≤ g) ∧ Below w.heap.size w w'
theorem cl_eq {Y A : List Az} (hR : Rise A) (hp : (Y.map cl).Perm (A.map cl)) : ∃ L, Y.Perm L ∧ Rise L ∧ L.map cl = A.map cl := by
  have h1 : (Y.map cl).Pairwise (fun a b => a.job ≠ b.job) := (hp.pairwise_iff (fun {a b} h => Ne.symm h)).2 ((rise_cl hR).imp fun h => by omega)
  obtain ⟨L, h2, h3⟩ := has_rise Y ((List.pairwise_map (f := cl) (R := fun a b => a.job ≠ b.job)).1 h1)
  exact ⟨L, h2, h3, rise_eq (rise_cl h3) (rise_cl hR) ((h2.map cl).symm.trans hp)⟩
set_option maxHeartbeats 1000000 in
theorem arts_any {w : World} {b m : Nat} {A : List Az} {tv : Value} {T : List Ev} (h : Sb w b m A tv T 0) :
    Calls Try.prog 8 #[.pointer (some ⟨b, 0, none⟩)] w (ArP A w) := by
  obtain ⟨iA, hiA, zA0, zA1, zA2⟩ := info_parts Try.infoA
  have H := hide h
  have hlen := h.len
  have c0 := h.c0
  obtain ⟨W1, hrng, hMi, hg, hsz⟩ := h.map.range
  have HG : Hid (Ga w m A (.slice none 0 0) [] A W1) := hide ⟨World.ownsRow_nil _ _ _ _, fun y hy => absurd hy (List.not_mem_nil), hMi, ⟨hg.os, hg.tape, hg.output, hg.size, fun k hk => hg.block k hk (fun e => by cases e)⟩, .refl _, fun x hx => hx⟩
  clear h hMi hg hsz
  go_enter Try.func8, Try.ntmps8
  go_wp2_with fail
  go_loopw [3, 5] (fun v _ wr => ∃ Y rest : List Az, Hid (Ga w m A v Y rest wr)) (fun _ _ wr => wr.rangeLeft m w.heap.size)
  case atStart => exact ⟨[], A, HG⟩
  case round =>
    clear HG hrng c0
    obtain ⟨Y, rest, HG⟩ := hrel
    have hlY : Y.length + rest.length = A.length := by
      have := HG.out.perm.length_eq
      simpa using this
    obtain ⟨adv, capv, hv⟩ := own_slice HG.out.row
    subst hv
    rcases HG.out.mi.next 0 with ⟨hz, hrun⟩ | ⟨x, rest', W2, hpx, hrun, hM2, hent, hg2, hs2⟩
    · have hrun2 : ∀ ty, (Instr.next (.pointer (some ⟨w.heap.size, 0, none⟩)) false ty).run Try.prog wr = .ok (.tuple #[.bool false]) wr := fun _ => hrun
      have hp := HG.out.perm
      rw [hz, List.map_nil, List.append_nil] at hp
      obtain ⟨L, hL1, hL2, hL3⟩ := cl_eq H.out.map.1 hp
      have HL : Hid (Y.Perm L ∧ Rise L ∧ L.map cl = A.map cl) := hide ⟨hL1, hL2, hL3⟩
      have hLl : L.length = A.length := by have := congrArg List.length hL3; simpa using this
      have hYL : Y.length = L.length := hL1.length_eq
      have HLL : Hid (L.length = A.length ∧ Y.length = L.length) := hide ⟨hLl, hYL⟩
      clear hrun hp hL1 hL2 hL3 hlY hLl hYL
      by_cases hn : L = []
      · have hY0 : Y.length = 0 := by rw [HLL.out.2, hn]; rfl
        rw [hY0]
        clear hY0
        go_wp2_with fail
        refine (sortNil _ _ _ _).mono ?_
        rintro e w2 ⟨rfl, rfl⟩
        go_wp2_with fail
        go_ret
        refine ⟨adv, 0, capv, [], rfl, ⟨fun h => absurd h (by decide), fun i hi => absurd hi (by simp)⟩, ?_, fun y hy => absurd hy (List.not_mem_nil), fun h => absurd h (by decide), HG.out.low⟩
        rw [← HL.out.2.2, hn]
      · have HS := hide (sortFunc_any HG.out.row HL.out.1 HL.out.2.1 (by have := HLL.out.1; omega) hn)
        have HN := hide hn
        clear hn
        go_wp2_with fail
        refine HS.out.mono ?_
        rintro e w2 ⟨rfl, g, cap2, hv, hg, hR, hgr⟩
        have HV := hide hv
        have HG2 := hide hg
        have HR2 := hide hR
        have HGR := hide hgr
        clear hv hg hR hgr
        go_wp2_with fail
        go_ret
        refine ⟨_, g, cap2, L, congrArg Ending.returned HV.out, HR2.out, HL.out.2.2, fun y hy => ?_, fun _ => HG2.out, HG.out.low.grown HGR.out HG.out.low.size (fun k e => by cases e; exact HG2.out)⟩
        refine own_keep (HG.out.pcs y (HL.out.1.mem_iff.2 hy)) fun k e => HGR.out.block k ((HG.out.pcs y (HL.out.1.mem_iff.2 hy)).lt k e).2 (fun e2 => ?_)
        refine own_apart HG.out.row (HG.out.pcs y (HL.out.1.mem_iff.2 hy)) (by decide) k ?_ e
        rw [HV.out]
        exact e2.symm
    · have hrun2 : ∀ ty, (Instr.next (.pointer (some ⟨w.heap.size, 0, none⟩)) false ty).run Try.prog wr = .ok (.tuple #[.bool true, .int .i64 x.job, x.val]) W2 := fun _ => hrun
      clear hrun
      have HLF : Hid (wr.rangeLeft m w.heap.size = rest.length) := HG.out.mi.left
      have hxr : x ∈ rest := hpx.mem_iff.2 (.head _)
      have hxA := HG.out.mem x hxr
      have HX := hide (H.out.ok x hxA)
      have hlr : rest.length = rest'.length + 1 := by have := hpx.length_eq; simpa using this
      have HMM : Hid (∀ y ∈ rest', y ∈ A) := hide fun y hy => HG.out.mem y (hpx.mem_iff.2 (.tail _ hy))
      have hrr : ∀ k, some w.heap.size = some k → ∃ o : Obj, wr.heap[k]? = some o ∧ o.isCells = false := fun k e => by
        cases e
        obtain ⟨o, h1, h2⟩ := HG.out.mi.iter
        exact ⟨o, h1, Obj.not_cells_of_walk h2⟩
      have hkeep : ∀ {base n size : Nat} {e : TypeId} {v : Value} {xs : List Value}, wr.ownsRow base e size v n xs → W2.ownsRow base e size v n xs := fun ho => own_keep ho fun k e => hg2.block k (ho.lt k e).2 (fun e2 => by
        obtain ⟨o, h1, h2⟩ := hrr k e2.symm
        obtain ⟨cs, h3⟩ := own_type ho k e
        rw [h1] at h3
        cases h3
        cases h2)
      have low2 : Below w.heap.size w W2 := HG.out.low.grown hg2 HG.out.low.size (fun k e => by cases e; exact Nat.le_refl _)
      have hb3 : Below W2.heap.size W2 (W2.alloc x.obj) := below_alloc W2 _
      have HR3 : Hid ((W2.alloc x.obj).ownsRow w.heap.size 40 3 (.slice adv Y.length capv) Y.length (acs Y)) := hide (own_keep (hkeep HG.out.row) fun k e => hb3.block k ((hkeep HG.out.row).lt k e).2)
      have HP3 : Hid (∀ y ∈ Y, (W2.alloc x.obj).ownsRow w.heap.size 9 1 y.sl y.pcs.length (tcs y.pcs)) := hide fun y hy => own_keep (hkeep (HG.out.pcs y hy)) fun k e => hb3.block k ((hkeep (HG.out.pcs y hy)).lt k e).2
      have HM3 := hide (hM2.below hb3)
      have HL3 := hide (low2.alloc (low2.size) x.obj)
      have hS3 : Sb (W2.alloc x.obj) b m A tv T 0 := H.out.below HL3.out
      have HC := hide (apart_any (x := x) (hS3.pcs x hxA (by have := HX.out.1; omega)) HX.out.2.2.2.2)
      have hx3 := heap_alloc_new W2 x.obj
      have hsz3 : (W2.alloc x.obj).heap.size = W2.heap.size + 1 := by simp
      have hlw : w.heap.size ≤ W2.heap.size := low2.size
      clear hkeep hrr hM2 hg2 hs2 hb3 low2 hS3
      obtain ⟨xj, xb, xad, xcap, xps⟩ := x
      obtain ⟨x0, x1, x2, xz⟩ := K.four_of hx3
      dsimp only [Az.val, Az.obj] at HC x0 x1 x2 HR3 HP3 HM3 HL3 hsz3 hrun2 hent
      clear hx3 xz
      go_wp2_with fail
      generalize W2.alloc (.cells #[.int .i64 xj, .int .i64 xb, .slice xad xps.length xcap] 40 (0, 0)) = W3 at *
      refine HC.out.mono ?_
      rintro e W4 ⟨y, rfl, y1, y2, y3, hy, hb4⟩
      obtain ⟨yj, yb, yad, ycap, yps⟩ := y
      simp only at y1 y2 y3
      subst y1; subst y2; subst y3
      have hlow4 := HL3.out.trans (hb4.mono HL3.out.size)
      have HR4 : Hid ((W4.alloc (Az.obj ⟨yj, yb, yad, ycap, yps⟩)).ownsRow w.heap.size 40 3 (.slice adv Y.length capv) Y.length (acs Y)) := hide (own_keep (own_keep HR3.out fun k e => hb4.block k (HR3.out.lt k e).2) fun k e => (below_alloc W4 _).block k (Nat.lt_of_lt_of_le (HR3.out.lt k e).2 hb4.size))
      have HY4 : Hid ((W4.alloc (Az.obj ⟨yj, yb, yad, ycap, yps⟩)).ownsRow w.heap.size 9 1 (.slice yad yps.length ycap) yps.length (tcs yps)) := hide (own_low (own_keep hy fun k e => (below_alloc W4 _).block k (hy.lt k e).2) (by omega))
      have HP4 : Hid (∀ y ∈ Y, (W4.alloc (Az.obj ⟨yj, yb, yad, ycap, yps⟩)).ownsRow w.heap.size 9 1 y.sl y.pcs.length (tcs y.pcs)) := hide fun y hy => own_keep (own_keep (HP3.out y hy) fun k e => hb4.block k ((HP3.out y hy).lt k e).2) fun k e => (below_alloc W4 _).block k (Nat.lt_of_lt_of_le ((HP3.out y hy).lt k e).2 hb4.size)
      have HM4 := hide ((HM3.out.below hb4).below (below_alloc W4 (Az.obj ⟨yj, yb, yad, ycap, yps⟩)))
      have HL4 := hide (hlow4.alloc hlow4.size (Az.obj ⟨yj, yb, yad, ycap, yps⟩))
      have hs4 : w.heap.size ≤ W4.heap.size := hlow4.size
      clear hy hb4 hlow4
      go_wp2_with (at_builtin; refine wpList_append_own _ rfl _ _ 34 rfl w.heap.size 40 iA az0.val 3 40 Try.underlying34 hiA zA0 zA1 zA2 rfl (by decide) (.slice adv Y.length capv) Y.length (acs Y) rfl HR4.out ⟨W4.heap.size, 0, none⟩ 1 1 (Az.cs ⟨yj, yb, yad, ycap, yps⟩) rfl rfl (World.news_of_block (heap_alloc_new W4 _)) (fun u hu => acs_one_cell [⟨yj, yb, yad, ycap, yps⟩] u (by rw [acs_one]; exact hu)) (by unfold maxLen; omega) (by omega) (by rw [World.size_alloc]; omega) ?_; intro v' w6 hown hgrow hnil; have HO6 := hide hown; have HG6 := hide hgrow; clear hown hgrow hnil)
      have hbs : ∀ k, (Value.slice adv Y.length capv).ownBlock = some k → w.heap.size ≤ k := fun k e => (HR4.out.lt k e).1
      have HGa : Ga w m A v' (Y ++ [⟨yj, yb, yad, ycap, yps⟩]) rest' w6 := by
        refine ⟨?_, fun y hy => ?_, HM4.out.grown HG6.out (fun k e => by obtain ⟨cs, h1⟩ := own_type HR4.out k e; exact ⟨cs, _, _, h1⟩), HL4.out.grown HG6.out HL4.out.size hbs, ?_, HMM.out⟩
        · rw [acs_snoc, List.length_append]
          exact HO6.out
        · have hp : (W4.alloc (Az.obj ⟨yj, yb, yad, ycap, yps⟩)).ownsRow w.heap.size 9 1 y.sl y.pcs.length (tcs y.pcs) := by
            rcases List.mem_append.1 hy with h1 | h1
            · exact HP4.out y h1
            · rcases List.mem_singleton.1 h1 with rfl
              exact HY4.out
          exact own_keep hp fun k e => HG6.out.block k (hp.lt k e).2 (fun e2 => own_apart HR4.out hp (by decide) k e2.symm e)
        · refine List.Perm.trans ?_ HG.out.perm
          rw [List.map_append, List.append_assoc]
          exact (List.Perm.refl _).append (hpx.map cl).symm
      refine ⟨⟨_, _, HGa⟩, ?_⟩
      rw [HGa.mi.left, HLF.out]
      omega
end Go.Proofs.Ytfmanndadjdpbaa.K
end
