import Derived.Test.YtapcmmljdpallaaSkH
import Derived.Test.YtapcmmljdpallaaShelfK
namespace Go.Proofs.Ytapcmmljdpallaa.K
open Go.RowKit Go.Shelf Go.Sort

theorem own_form {w : World} {B : Nat} {e : TypeId} {size n : Nat} {v : Value} {xs : List Value} (h : w.ownsRow B e size v n xs) : (v = .slice none 0 0 ∧ n = 0) ∨ ∃ g cap, v = .slice (some ⟨g, 0, none⟩) n cap ∧ g < w.heap.size := by
  rcases h.2 with h1 | ⟨g, cap, cur, rfl, hg, hh, _⟩
  · exact .inl h1
  · exact .inr ⟨g, cap, rfl, lt_blk hh⟩
instance : Inhabited Az := ⟨az0⟩
set_option maxHeartbeats 1000000 in
theorem byBadge_any (x y : Az) (W : World) : Calls Try.prog 21 #[x.val, y.val] W fun e w' => e = .returned (.int .i64 (Lib.compareInt x.job y.job)) ∧ ∃ q os', w' = grow (W.drewN q) os' := by
  have hcon := fun W' => Try.cmp_Compare_int x.job y.job W'
  generalize Lib.compareInt x.job y.job = r at hcon ⊢
  go_enter Try.func21, Try.ntmps21
  go_wp2_with (go_at_call 22; refine (hcon _).mono ?_; rintro e w' ⟨rfl, rfl⟩)
  go_ret
  exact ⟨rfl, 0, _, by rw [alloc_eq_grow, alloc_eq_grow, grow_grow]; rfl⟩
theorem cmpLays (blk off size : Nat) (w : World) : CmpLays Try.prog 21 #[] Az.cs 3 (fun x y => Lib.compareInt x.job y.job) blk off size w := fun _ _ _ _ x y => byBadge_any x y _
theorem ltB (x y : Az) : ltOf (fun x y : Az => Lib.compareInt x.job y.job) x y = decide (x.job < y.job) := by
  unfold ltOf Lib.compareInt
  by_cases h1 : x.job < y.job
  · simp [h1]
  · by_cases h2 : y.job < x.job <;> simp [h1, h2]
theorem swoB : SWO (ltOf fun x y : Az => Lib.compareInt x.job y.job) where
  irrefl x := by rw [ltB]; simp
  trans x y z h1 h2 := by rw [ltB] at *; simp at *; omega
  ntrans x y z h1 h2 := by rw [ltB] at *; simp at *; omega
theorem lenB (n : Nat) (W : World) (h : n ≤ 12) : Calls Try.prog 33 #[.int .u64 n] W fun e w' => (∃ l : Int, e = .returned (.int .i64 l)) ∧ w' = W :=
  (Try.bits_Len n W (by omega) (by omega)).mono fun _ _ ⟨he, hw⟩ => ⟨⟨_, he⟩, hw⟩

theorem flat_at (d : Array Az) (i k : Nat) (hi : i < d.size) (hk : k < 3) : (flatK Az.cs 3 d)[i * 3 + k]! = (d[i].cs)[k]! := by
  rw [get_flatK _ _ _ _ (by omega), show (i * 3 + k) / 3 = i by omega, show (i * 3 + k) % 3 = k by omega, getElem!_pos d i hi]
/-- a row of one's own holds -/
theorem holds_own {w : World} {base g cap : Nat} {ys : List Az} (h : w.ownsRow base 49 3 (.slice (some ⟨g, 0, none⟩) ys.length cap) ys.length (acs ys)) : HoldsK Az.cs 3 w g 0 ys.toArray := by
  intro j hj
  rw [size_flatK] at hj
  simp only [List.size_toArray] at hj
  obtain ⟨i, k, hi, hk, rfl⟩ : ∃ i k, i < ys.length ∧ k < 3 ∧ j = i * 3 + k := ⟨j / 3, j % 3, by omega, by omega, by omega⟩
  rw [flat_at _ _ _ (by simpa using hi) hk]
  have h1 := acs_get ys i k hi hk
  obtain ⟨u, hu⟩ : ∃ u, (ys[i]).cs[k]? = some u := ⟨_, List.getElem?_eq_getElem (show k < 3 from hk)⟩
  rw [hu] at h1
  have h2 := h.cells (g := g) rfl (i * 3 + k) u h1
  rw [Addr.add_lit] at h2
  have h3 : (ys.toArray[i]'(by simpa using hi)).cs[k]! = u := by
    simp only [List.getElem_toArray]
    rw [List.getElem!_eq_getElem?_getD, hu]; rfl
  rw [h3]
  refine ⟨h2, ?_⟩
  rcases h.2 with ⟨h1, _⟩ | ⟨g', cap', cur, h1, _, hg, _⟩
  · cases h1
  · injection h1 with h1
    injection h1 with h1
    injection h1 with h1
    subst h1
    simp [World.frozen?, hg]
/-- what holds is read -/
theorem rs_holds {w : World} {g : Nat} {d : Array Az} (h : HoldsK Az.cs 3 w g 0 d) : Rs w (some ⟨g, 0, none⟩) g 0 d.toList := by
  refine ⟨fun _ => rfl, fun i hi k hk => ?_⟩
  simp only [Array.length_toList] at hi
  have h1 := (h (i * 3 + k) (by rw [size_flatK]; omega)).1
  rw [flat_at _ _ _ hi hk] at h1
  rw [show (⟨g, 0 + i * 3 + k, none⟩ : Addr) = ⟨g, 0 + (i * 3 + k), none⟩ by rw [Nat.add_assoc], h1, Array.getElem_toList]
  obtain ⟨u, hu⟩ : ∃ u, (d[i]).cs[k]? = some u := ⟨_, List.getElem?_eq_getElem (show k < 3 from hk)⟩
  rw [List.getElem!_eq_getElem?_getD, hu]
  rfl
theorem sorted_world {w : World} {g n : Nat} {d : Array Az} {os : Array Obj} : w.grownBy (sortWorldK Az.cs 3 w g 0 n d os) (some g) := by
  refine ⟨rfl, rfl, rfl, size_sortWorldK_c _ _ _ _ _ _ _ _, fun k hk hne => ?_⟩
  have hne' : k ≠ g := fun e => hne (by rw [e])
  unfold sortWorldK putRowK putRow mapBlock grow Sort.ahead
  show ((w.heap.modify g _) ++ os)[k]? = _
  rw [Array.getElem?_append_left (by rw [Array.size_modify]; exact hk), Array.getElem?_modify, if_neg (fun e => hne' e.symm)]
theorem rise_of_sorted {L : List Az} (hL : Rise L) {d : Array Az} (hp : d.toList.Perm L) (hs : SortedIn (ltOf fun x y : Az => Lib.compareInt x.job y.job) 0 d.size d) : d.toList = L := by
  refine rise_eq ?_ hL hp
  refine List.pairwise_iff_getElem.2 fun i j hi hj hij => ?_
  simp only [Array.length_toList] at hi hj
  have h1 := hs i j (Nat.zero_le _) hij hj
  rw [ltB, getElem!_pos d i hi, getElem!_pos d j hj] at h1
  simp only [decide_eq_false_iff_not, Int.not_lt] at h1
  rw [Array.getElem_toList, Array.getElem_toList]
  have hnd : d.toList.Pairwise (fun a b => a.job ≠ b.job) := (hp.pairwise_iff (fun {a b} h => Ne.symm h)).2 (hL.imp fun h => by omega)
  have h2 := List.pairwise_iff_getElem.1 hnd i j (by simpa using hi) (by simpa using hj) hij
  rw [Array.getElem_toList, Array.getElem_toList] at h2
  omega

set_option maxHeartbeats 1000000 in
/-- slices.SortFunc of at most twelve leases -/
theorem sortFunc_any {w : World} {base : Nat} {v : Value} {ys L : List Az} (h : w.ownsRow base 49 3 v ys.length (acs ys)) (hp : ys.Perm L) (hL : Rise L) (hl : L.length ≤ 12) (hne : L ≠ []) :
    Calls Try.prog 20 #[v, .func (.func 21) #[] #[]] w fun e w' => e = .returned (.tuple #[]) ∧ ∃ g cap, v = .slice (some ⟨g, 0, none⟩) L.length cap ∧ base ≤ g ∧ Rs w' (some ⟨g, 0, none⟩) g 0 L ∧ w.grownBy w' (some g) := by
  have hlen := hp.length_eq
  rcases own_form h with ⟨rfl, hz⟩ | ⟨g, cap, rfl, hg⟩
  · exact absurd (List.eq_nil_of_length_eq_zero (by omega)) hne
  · have eg : ∀ args w, (callFunc 21 args).run Try.prog w = .ok (.enter 21 args) w := enters_of Try.func21 (by kernel_rfl) rfl
    have hcon := AnyQ.slices_SortFunc_small_sorted Try.sortL 3 Try.isAgg49 Try.sizeOf49 Az.cs (fun _ => rfl) (fun x u hu => acs_one_cell [x] u (by rw [acs_one]; exact hu)) (fun x y => Lib.compareInt x.job y.job) 21 #[] swoB g 0 cap ys.toArray w eg (cmpLays g 0 _ w) (holds_own h) hg (by simp; omega) lenB
    refine Calls.mono hcon ?_
    rintro e w' ⟨rfl, d', n, os, hpm, hs, rfl⟩
    obtain ⟨hsz, _, hpp⟩ := hpm
    simp only [List.size_toArray] at hsz hs
    have hpp' : d'.toList.Perm ys := by
      have e1 : (d'.extract 0 ys.toArray.size) = d' := by rw [List.size_toArray, ← hsz]; exact Array.extract_size
      rw [e1] at hpp
      simpa using hpp
    have hdL := rise_of_sorted hL (hpp'.trans hp) (by rw [hsz]; exact hs)
    refine ⟨rfl, g, cap, by rw [hlen], (h.lt g rfl).1, ?_, sorted_world⟩
    rw [← hdL]
    exact rs_holds (holdsK_sortWorldK_c Az.cs 3 w g 0 ys.toArray d' n os (holds_own h) hg (by simpa using hsz))
set_option maxHeartbeats 2000000 in
theorem insNil (W : World) (ad : Option Addr) (cap : Nat) (fv : Value) : Calls Try.prog 43 #[.slice ad 0 cap, .int .i64 0, .int .i64 0, fv] W fun e w' => e = .returned (.tuple #[]) ∧ w' = W := by
  go_enter Try.func43, Try.ntmps43
  go_wp2
  refine wp_loop_rounds 1 ?_
  rw [rounds_succ]
  go_wp2
  go_end0
  exact ⟨rfl, rfl⟩
set_option maxHeartbeats 2000000 in
theorem pdqNil (W : World) (ad : Option Addr) (cap : Nat) (lim : Int) (fv : Value) : Calls Try.prog 32 #[.slice ad 0 cap, .int .i64 0, .int .i64 0, .int .i64 lim, fv] W fun e w' => e = .returned (.tuple #[]) ∧ w' = W := by
  go_enter Try.func32, Try.ntmps32
  go_wp2
  refine wp_loop_rounds 1 ?_
  rw [rounds_succ]
  go_wp2_with (go_at_call 43; refine (insNil _ _ _ _).mono ?_; rintro e w' ⟨rfl, rfl⟩)
  (try simp only [Exit.inBlock, Exit.then]); refine bodyPost_ret (results_none rfl _ _ _) rfl ?_
  exact ⟨rfl, rfl⟩
set_option maxHeartbeats 2000000 in
theorem sortNil (W : World) (ad : Option Addr) (cap : Nat) (fv : Value) : Calls Try.prog 20 #[.slice ad 0 cap, fv] W fun e w' => e = .returned (.tuple #[]) ∧ w' = W := by
  have hl : ∀ W, Calls Try.prog 33 #[.int .u64 0] W fun e w' => e = .returned (.int .i64 (Lib.bitLen 0 : Nat)) ∧ w' = W := fun W => Try.bits_Len 0 W (by omega) (by omega)
  go_enter Try.func20, Try.ntmps20
  go_wp2_with (first | (go_at_call 33; refine (hl _).mono ?_; rintro e w' ⟨rfl, rfl⟩) | (go_at_call 32; refine (pdqNil _ _ _ _ _).mono ?_; rintro e w' ⟨rfl, rfl⟩))
  go_end0
  exact ⟨rfl, rfl⟩

end Go.Proofs.Ytapcmmljdpallaa.K
