import Derived.Test.YtjfgmdiafhkbgaaRows
import Derived.OrdersHeld
import Derived.Deep.RegionHeld
import Derived.Tactics
namespace Go.Proofs.Ytjfgmdiafhkbgaa
/-- a slot that was put, read -/
theorem pe_same {a : Act} {k : Nat} {v : Value} (h : k < a.tmps.size) : (a.put (some k) v).eval (.tmp k) = v := by
  simp [Act.eval, Act.put, h]
theorem pe_ne {a : Act} {k j : Nat} {v : Value} (h : k ≠ j) : (a.put (some k) v).eval (.tmp j) = a.eval (.tmp j) := by
  simp [Act.eval, Act.put, Array.getElem?_setIfInBounds_ne h]
theorem pe_size {a : Act} {k : Nat} {v : Value} : (a.put (some k) v).tmps.size = a.tmps.size := by simp [Act.put]
def putAll (a : Act) (L : List (Nat × Value)) : Act := L.foldl (fun a p => a.put (some p.1) p.2) a
theorem putAll_perm {L L' : List (Nat × Value)} (h : L.Perm L') (hn : (L.map Prod.fst).Nodup) (a : Act) : putAll a L = putAll a L' := by
  have hx : ∀ x ∈ L, ∀ y ∈ L, x.1 = y.1 → x = y := by
    clear h
    induction L with
    | nil => intro x hx; cases hx
    | cons z L ih =>
      rw [List.map_cons, List.nodup_cons] at hn
      intro x hx y hy e
      rcases List.mem_cons.1 hx with rfl | hx'
      · rcases List.mem_cons.1 hy with rfl | hy'
        · rfl
        · exact absurd (List.mem_map.2 ⟨y, hy', e.symm⟩) hn.1
      · rcases List.mem_cons.1 hy with rfl | hy'
        · exact absurd (List.mem_map.2 ⟨x, hx', e⟩) hn.1
        · exact ih hn.2 x hx' y hy' e
  refine h.foldl_eq' (fun x hx' y hy' z => ?_) a
  by_cases e : x.1 = y.1
  · rw [hx x hx' y hy' e]
  · exact Act.put_comm z _ _ fun d h1 h2 => e (by rw [Option.some.inj h1, ← Option.some.inj h2])
theorem perm_at {L : List (Nat × Value)} (σ : List Nat) (h : (List.range L.length).Perm σ) : L.Perm (σ.map fun i => L[i]!) := by
  have e : L = (List.range L.length).map fun i => L[i]! := by
    apply List.ext_getElem
    · simp
    · intro i h1 h2
      simp [List.getElem?_eq_getElem h1]
  have := h.map fun i => L[i]!
  rwa [← e] at this
theorem put_fold {a a' : Act} {s : Nat} {v : Value} {L : List (Nat × Value)} (h : a.put (some s) v = a') : putAll a ((s, v) :: L) = putAll a' L := by rw [← h]; rfl
/-- one way on behind a region, whatever its order; the act a variable within it -/
theorem wp_share {P : Program} {id : Nat} {ops : Array Oper} {b : Bool} {Q : Exit → Act → World → Prop} {a : Act} {w : World} (R : Act → Act → World → Prop)
    (h2 : ∀ a1, a1 = a → (Code.region id ops b).wp P (fun e a' W => e = .normal ∧ R a1 a' W) a1 w) (h1 : ∀ a' W, R a a' W → Q .normal a' W) : (Code.region id ops b).wp P Q a w :=
  Code.wp_mono (fun e a' W h => by obtain ⟨rfl, h⟩ := h; exact h1 a' W h) (h2 a rfl)
variable {P : Program} {ops : Array Oper} {Q : Exit → Act → World → Prop} {md : Region.Mode} {S : World → Prop}
/-- an operation that yields in any world that meets S, first -/
theorem wU (i d : Nat) {oi : Oper} (v : Value) {fuel : Nat} {listed : Array Bool} {a : Act} {w : World} (hi : ops[i]? = some oi := by rfl) (hd : oi.dst = some d := by rfl) (hg : oi.guard = none := by rfl)
    (hs : Region.noSelect ops = true := by kernel_rfl) (hf : Region.free md ops listed i = true := by kernel_rfl) (hr : (Region.ready md ops listed).contains i = true := by kernel_rfl)
    (hQ : ∀ c a w, ¬ Q (.panic c) a w) (y : ∀ w, S w → (execOp a.eval oi).run P w = .ok (.value v) w) (s : S w)
    (h : wpAnyH P md ops Q S fuel (listed.setIfInBounds i true) (a.put (some d) v) w) : wpAnyH P md ops Q S (fuel + 1) listed a w :=
  wpAnyH_take hi hs hf hr (fun c a w h => absurd h (hQ _ _ _)) (Or.inl ⟨by simp [Region.wanted, hg], y⟩) s (by rw [hd]; exact h)
/-- an operation that yields in the world at hand -/
theorem sV {o : Oper} {a : Act} {K : Act → World → Prop} {E : Prop} (d : Nat) (v : Value) (w' : World) {w : World} (hd : o.dst = some d) (hg : o.guard = none) (hr : (execOp a.eval o).run P w = .ok (.value v) w') (h : K (a.put (some d) v) w') :
    if Region.wanted o (yielded ops a.tmps) = true then Oper.wp P o a w K Q else E := by
  have hw : Region.wanted o (yielded ops a.tmps) = true := by simp [Region.wanted, hg]
  rw [if_pos hw, Oper.wp, hr, Oper.upon_value, hd]
  exact h
/-- one that only writes -/
theorem sS {o : Oper} {a : Act} {K : Act → World → Prop} {E : Prop} (w' : World) {w : World} (hd : o.dst = none) (hg : o.guard = none) (hr : (execOp a.eval o).run P w = .ok .skip w') (h : K a w') :
    if Region.wanted o (yielded ops a.tmps) = true then Oper.wp P o a w K Q else E := by
  have hw : Region.wanted o (yielded ops a.tmps) = true := by simp [Region.wanted, hg]
  rw [if_pos hw, Oper.wp, hr, Oper.upon_skip, hd]
  exact h
/-- one that calls -/
theorem sC {o : Oper} {a : Act} {K : Act → World → Prop} {E : Prop} (d : Nat) (v : Value) {f : FuncId} {args : Array Value} {w : World} {R : World → Prop} (hd : o.dst = some d) (hg : o.guard = none) (hr : (execOp a.eval o).run P w = .ok (.enter f args) w)
    (hc : Calls P f args w fun e w' => e = .returned v ∧ R w') (h : ∀ w', R w' → K (a.put (some d) v) w') :
    if Region.wanted o (yielded ops a.tmps) = true then Oper.wp P o a w K Q else E := by
  have hw : Region.wanted o (yielded ops a.tmps) = true := by simp [Region.wanted, hg]
  rw [if_pos hw, Oper.wp, hr, Oper.upon_enter]
  refine Calls.mono hc fun e w' he => ?_
  obtain ⟨rfl, he⟩ := he
  simp only [hd]
  exact h w' he
theorem yl {ops : Array Oper} {a : Act} {g d : Nat} {b : Bool} {o : Oper} (ho : ops[g]? = some o) (hd : o.dst = some d) (he : a.eval (.tmp d) = .bool b) : yielded ops a.tmps g = some b := by
  unfold yielded
  rw [ho]
  simp only [Option.bind_some, hd]
  unfold Act.eval at he
  cases h : a.tmps[d]? with
  | none => simp [h, undef] at he
  | some v =>
    have : v = .bool b := by simpa [h] using he
    rw [this]
theorem yl0 {ops : Array Oper} {a : Act} {g d : Nat} {o : Oper} (ho : ops[g]? = some o) (hd : o.dst = some d) (he : a.eval (.tmp d) = undef) : yielded ops a.tmps g = none := by
  unfold yielded
  rw [ho]
  simp only [Option.bind_some, hd]
  unfold Act.eval at he
  cases h : a.tmps[d]? with
  | none => rfl
  | some v =>
    have : v = undef := by simpa [h] using he
    rw [this]
    rfl
/-- a guarded operation that is wanted -/
theorem wG (i d gd : Nat) {oi og : Oper} {g : Nat} {want : Bool} (v : Value) {fuel : Nat} {listed : Array Bool} {a : Act} {w : World} (hi : ops[i]? = some oi := by rfl) (hd : oi.dst = some d := by rfl) (hg : oi.guard = some (g, want) := by rfl) (ho : ops[g]? = some og := by rfl) (hgd : og.dst = some gd := by rfl)
    (hs : Region.noSelect ops = true := by kernel_rfl) (hf : Region.free md ops listed i = true := by kernel_rfl) (hr : (Region.ready md ops listed).contains i = true := by kernel_rfl)
    (hQ : ∀ c a w, ¬ Q (.panic c) a w) (he : a.eval (.tmp gd) = .bool want) (y : ∀ w, S w → (execOp a.eval oi).run P w = .ok (.value v) w) (s : S w)
    (h : wpAnyH P md ops Q S fuel (listed.setIfInBounds i true) (a.put (some d) v) w) : wpAnyH P md ops Q S (fuel + 1) listed a w :=
  wpAnyH_take hi hs hf hr (fun c a w h => absurd h (hQ _ _ _)) (Or.inl ⟨by simp [Region.wanted, hg, yl ho hgd he], y⟩) s (by rw [hd]; exact h)
/-- one that is passed over -/
theorem wO (i d gd : Nat) {oi og : Oper} {g : Nat} {want : Bool} (b : Bool) {fuel : Nat} {listed : Array Bool} {a : Act} {w : World} (hi : ops[i]? = some oi := by rfl) (hd : oi.dst = some d := by rfl) (hg : oi.guard = some (g, want) := by rfl) (ho : ops[g]? = some og := by rfl) (hgd : og.dst = some gd := by rfl)
    (hs : Region.noSelect ops = true := by kernel_rfl) (hf : Region.free md ops listed i = true := by kernel_rfl) (hr : (Region.ready md ops listed).contains i = true := by kernel_rfl)
    (hQ : ∀ c a w, ¬ Q (.panic c) a w) (he : a.eval (.tmp gd) = .bool b) (hb : b ≠ want) (s : S w)
    (h : wpAnyH P md ops Q S fuel (listed.setIfInBounds i true) (a.put (some d) undef) w) : wpAnyH P md ops Q S (fuel + 1) listed a w :=
  wpAnyH_take hi hs hf hr (fun c a w h => absurd h (hQ _ _ _)) (Or.inr ⟨by simp [Region.wanted, hg, yl ho hgd he, hb], rfl⟩) s (by rw [hd]; exact h)
theorem wN (i d gd : Nat) {oi og : Oper} {g : Nat} {want : Bool} {fuel : Nat} {listed : Array Bool} {a : Act} {w : World} (hi : ops[i]? = some oi := by rfl) (hd : oi.dst = some d := by rfl) (hg : oi.guard = some (g, want) := by rfl) (ho : ops[g]? = some og := by rfl) (hgd : og.dst = some gd := by rfl)
    (hs : Region.noSelect ops = true := by kernel_rfl) (hf : Region.free md ops listed i = true := by kernel_rfl) (hr : (Region.ready md ops listed).contains i = true := by kernel_rfl)
    (hQ : ∀ c a w, ¬ Q (.panic c) a w) (he : a.eval (.tmp gd) = undef) (s : S w)
    (h : wpAnyH P md ops Q S fuel (listed.setIfInBounds i true) (a.put (some d) undef) w) : wpAnyH P md ops Q S (fuel + 1) listed a w :=
  wpAnyH_take hi hs hf hr (fun c a w h => absurd h (hQ _ _ _)) (Or.inr ⟨by simp [Region.wanted, hg, yl0 ho hgd he], rfl⟩) s (by rw [hd]; exact h)
/-- the one operation that may come up only writes -/
theorem one_store {i : Nat} {o : Oper} {fuel : Nat} {listed : Array Bool} {a : Act} {w : World} (w' : World) (hr : Region.ready md ops listed = [i]) (ho : ops[i]? = some o) (hg : o.guard = none) (hd : o.dst = none) (hrun : (execOp a.eval o).run P w = .ok .skip w') (hS : S w')
    (h : S w' → wpAnyH P md ops Q S fuel (listed.setIfInBounds i true) a w') : wpAnyH P md ops Q S (fuel + 1) listed a w :=
  wpAnyH_ready hr (by simp) (AllReadyH.cons ho (fun _ hK => sS (ops := ops) w' hd hg hrun (hK.out _ _ hS h)) AllReadyH.nil)
end Go.Proofs.Ytjfgmdiafhkbgaa
