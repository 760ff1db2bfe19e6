import Derived.Test.YtapcmmljdpallaaSkA
namespace Go.Proofs.Ytapcmmljdpallaa.K
open Go.RowKit Go.MapKept
set_option maxRecDepth 8000
open Go.ChangeMaps (setBlock heap_setBlock_same heap_setBlock_other modify_eq_set)

/-- by rising badges -/
def Rise (L : List Az) : Prop := L.Pairwise (fun a b => a.job < b.job)
/-- the lease of a badge -/
def fnd (g : Int) : List Az → Az
  | [] => az0
  | x :: l => if x.job = g then x else fnd g l
def has (g : Int) (L : List Az) : Bool := L.any fun x => x.job == g
def del (g : Int) (L : List Az) : List Az := L.filter fun x => x.job != g
/-- laid in its place -/
def ins (x : Az) : List Az → List Az
  | [] => [x]
  | y :: l => if x.job < y.job then x :: y :: l else y :: ins x l
/-- laid in the place of the one of its badge -/
def put (x : Az) (L : List Az) : List Az := ins x (del x.job L)

theorem ins_perm (x : Az) : ∀ L, (ins x L).Perm (x :: L)
  | [] => .refl _
  | y :: l => by
    unfold ins
    split
    · exact .refl _
    · exact ((ins_perm x l).cons y).trans (.swap x y l)
theorem mem_ins {x y : Az} {L : List Az} : y ∈ ins x L ↔ y = x ∨ y ∈ L := by rw [(ins_perm x L).mem_iff, List.mem_cons]
theorem ins_len (x : Az) (L : List Az) : (ins x L).length = L.length + 1 := by rw [(ins_perm x L).length_eq, List.length_cons]
theorem ins_rise {x : Az} : ∀ {L}, Rise L → (∀ y ∈ L, y.job ≠ x.job) → Rise (ins x L)
  | [], _, _ => by simp [ins, Rise]
  | y :: l, h, hn => by
    obtain ⟨h1, h2⟩ := List.pairwise_cons.1 h
    unfold ins
    split
    · rename_i hlt
      refine List.pairwise_cons.2 ⟨fun z hz => ?_, h⟩
      rcases List.mem_cons.1 hz with rfl | hz
      · exact hlt
      · exact Int.lt_trans hlt (h1 z hz)
    · rename_i hlt
      refine List.pairwise_cons.2 ⟨fun z hz => ?_, ins_rise h2 fun z hz => hn z (.tail _ hz)⟩
      rcases mem_ins.1 hz with rfl | hz
      · have := hn y (.head _); omega
      · exact h1 z hz
theorem del_rise {L : List Az} (h : Rise L) (g : Int) : Rise (del g L) := h.filter _
theorem mem_del {g : Int} {L : List Az} {x : Az} : x ∈ del g L ↔ x ∈ L ∧ x.job ≠ g := by simp [del]
theorem put_rise {L : List Az} (h : Rise L) (x : Az) : Rise (put x L) := ins_rise (del_rise h _) fun _ hy => (mem_del.1 hy).2
theorem mem_put {x y : Az} {L : List Az} : y ∈ put x L ↔ y = x ∨ (y ∈ L ∧ y.job ≠ x.job) := by unfold put; rw [mem_ins, mem_del]
theorem has_iff {g : Int} {L : List Az} : has g L = true ↔ ∃ x ∈ L, x.job = g := by simp [has]
theorem has_false {g : Int} {L : List Az} : has g L = false ↔ ∀ x ∈ L, x.job ≠ g := by simp [has]
theorem rise_one {L : List Az} (h : Rise L) {x y : Az} (hx : x ∈ L) (hy : y ∈ L) (e : x.job = y.job) : x = y := by
  induction L with
  | nil => cases hx
  | cons z l ih =>
    obtain ⟨h1, h2⟩ := List.pairwise_cons.1 h
    rcases List.mem_cons.1 hx with ex | hx
    · rcases List.mem_cons.1 hy with ey | hy
      · rw [ex, ey]
      · have := h1 y hy; rw [ex] at e; omega
    · rcases List.mem_cons.1 hy with ey | hy
      · have := h1 x hx; rw [ey] at e; omega
      · exact ih h2 hx hy
theorem fnd_none {g : Int} : ∀ {L}, has g L = false → fnd g L = az0
  | [], _ => rfl
  | x :: l, h => by
    have h0 := has_false.1 h
    unfold fnd
    rw [if_neg (h0 x (.head _))]
    exact fnd_none (has_false.2 fun y hy => h0 y (.tail _ hy))
theorem fnd_at {L : List Az} (h : Rise L) {x : Az} (hx : x ∈ L) : fnd x.job L = x := by
  induction L with
  | nil => cases hx
  | cons z l ih =>
    obtain ⟨h1, h2⟩ := List.pairwise_cons.1 h
    unfold fnd
    split
    · rename_i e; exact rise_one h (.head _) hx e
    · rename_i e
      rcases List.mem_cons.1 hx with rfl | hx
      · exact absurd rfl e
      · exact ih h2 hx
theorem fnd_mem {g : Int} : ∀ {L}, has g L = true → fnd g L ∈ L ∧ (fnd g L).job = g
  | [], h => by simp [has] at h
  | x :: l, h => by
    unfold fnd
    split
    · rename_i e; exact ⟨.head _, e⟩
    · rename_i e
      obtain ⟨y, hy, e2⟩ := has_iff.1 h
      rcases List.mem_cons.1 hy with rfl | hy
      · exact absurd e2 e
      · obtain ⟨h1, h2⟩ := fnd_mem (has_iff.2 ⟨y, hy, e2⟩)
        exact ⟨.tail _ h1, h2⟩
/-- two rising lists of the same members are one -/
theorem rise_eq : ∀ {A B : List Az}, Rise A → Rise B → A.Perm B → A = B
  | [], B, _, _, p => p.nil_eq
  | a :: A, [], _, _, p => absurd p.length_eq (by simp)
  | a :: A, b :: B, hA, hB, p => by
    obtain ⟨a1, a2⟩ := List.pairwise_cons.1 hA
    obtain ⟨b1, b2⟩ := List.pairwise_cons.1 hB
    have e : a = b := by
      have h1 : a ∈ b :: B := p.mem_iff.1 (.head _)
      have h2 : b ∈ a :: A := p.mem_iff.2 (.head _)
      rcases List.mem_cons.1 h1 with h1 | h1
      · exact h1
      · rcases List.mem_cons.1 h2 with h2 | h2
        · exact h2.symm
        · have := b1 a h1; have := a1 b h2; omega
    subst e
    rw [rise_eq a2 b2 (List.perm_cons a |>.1 p)]

def kv (e : MapEntry) : Value × Value := (e.key, e.val)
def lkv (x : Az) : Value × Value := (.int .i64 x.job, x.val)
/-- block m is a map of the leases L -/
def Lm (w : World) (m : Nat) (L : List Az) : Prop :=
  Rise L ∧ ∃ es clock, w.heap[m]? = some (.map es clock) ∧ Stamped es clock ∧ (es.toList.map kv).Perm (L.map lkv)

section
variable {w w' : World} {m : Nat} {L : List Az}
theorem Lm.keep (h : Lm w m L) (e : w'.heap[m]? = w.heap[m]?) : Lm w' m L := by
  obtain ⟨h0, es, c, h1, h2⟩ := h
  exact ⟨h0, es, c, e.trans h1, h2⟩
theorem Lm.lt (h : Lm w m L) : m < w.heap.size := by
  obtain ⟨_, es, c, h1, _⟩ := h
  exact (Array.getElem?_eq_some_iff.1 h1).1
theorem Lm.block (h : Lm w m L) : ∃ es c, w.heap[m]? = some (.map es c) := by
  obtain ⟨_, es, c, h1, _⟩ := h
  exact ⟨es, c, h1⟩
theorem Lm.below (h : Lm w m L) (hb : Below w.heap.size w w') : Lm w' m L := h.keep (hb.block _ h.lt)
theorem lm_new (w : World) : Lm (w.alloc (.map #[] 0)) w.heap.size [] := ⟨.nil, #[], 0, (MapKept.heap_alloc w _).1, stamped_empty 0, by simp⟩

theorem keys_are {es : Array MapEntry} (hp : (es.toList.map kv).Perm (L.map lkv)) : ∀ x ∈ es.toList, ∃ y ∈ L, kv x = lkv y := fun x hx => by
  have h1 : kv x ∈ L.map lkv := hp.mem_iff.1 (List.mem_map.2 ⟨x, hx, rfl⟩)
  obtain ⟨y, hy, e⟩ := List.mem_map.1 h1
  exact ⟨y, hy, e.symm⟩
theorem keys_key {es : Array MapEntry} (hp : (es.toList.map kv).Perm (L.map lkv)) : ∀ x ∈ es.toList, IsKey (.int .i64) x.key := fun x hx => by
  obtain ⟨y, _, e⟩ := keys_are hp x hx
  simp only [kv, lkv, Prod.mk.injEq] at e
  rw [e.1]
  rfl
theorem mem_are {es : Array MapEntry} (hp : (es.toList.map kv).Perm (L.map lkv)) {y : Az} (hy : y ∈ L) : ∃ x ∈ es.toList, kv x = lkv y := by
  have h1 : lkv y ∈ es.toList.map kv := hp.mem_iff.2 (List.mem_map.2 ⟨y, hy, rfl⟩)
  obtain ⟨x, hx, e⟩ := List.mem_map.1 h1
  exact ⟨x, hx, e⟩

/-- v, ok := m[g] -/
theorem Lm.look (h : Lm w m L) (g : Int) : (Instr.lookup 55 (.map (some m)) (.int .i64 g) true).run Try.prog w = .ok (.tuple #[(fnd g L).val, .bool (has g L)]) w := by
  obtain ⟨hR, es, clock, hb, hst, hp⟩ := h
  have hz : (zeroValue 49).run Try.prog w = .ok az0.val w := by kernel_rfl
  have ht : Try.prog.underlying 55 = some (.map 3 49) := Try.underlying55
  rcases findNow_spec (d := .int .i64) (k := .int .i64 g) rfl es.toList 0 (keys_key hp) with ⟨h1, h2⟩ | ⟨j, e, h1, h2, h3⟩
  · have hf : has g L = false := has_false.2 fun x hx e => by
      obtain ⟨y, hy, e2⟩ := mem_are hp hx
      simp only [kv, lkv, Prod.mk.injEq] at e2
      exact h2 y hy (by rw [e2.1, e])
    rw [fnd_none hf, hf]
    simp [Instr.lookup, run_underlying ht, MapKept.run_getObj_map hb, run_checkKey Try.underlying3 (k := .int .i64 g) (d := .int .i64) rfl, run_findKey Try.underlying3 h1, hz, Result.andThen]
  · obtain ⟨y, hy, e2⟩ := keys_are hp e (List.mem_of_getElem? h2)
    simp only [kv, lkv, Prod.mk.injEq] at e2
    have eg : y.job = g := by
      have := e2.1
      rw [h3] at this
      injection this with _ this
      exact this.symm
    have hh : has g L = true := has_iff.2 ⟨y, hy, eg⟩
    have hf : fnd g L = y := by rw [← eg]; exact fnd_at hR hy
    rw [hf, hh, ← e2.2]
    simp [Instr.lookup, run_underlying ht, MapKept.run_getObj_map hb, run_checkKey Try.underlying3 (k := .int .i64 g) (d := .int .i64) rfl, run_findKey Try.underlying3 h1, Result.andThen]

theorem set_grown {es : Array MapEntry} {c : Nat} (hb : w.heap[m]? = some (.map es c)) (o : Obj) : w.grownBy (setBlock w m o) (some m) :=
  ⟨rfl, rfl, rfl, by simp [setBlock], fun i _ hi => heap_setBlock_other hb _ (fun e => hi (by rw [e]))⟩
/-- is it that key? -/
def kb (g : Int) : Value → Bool
  | .int _ a => a == g
  | _ => false
theorem kb_int (g a : Int) (q : IntKind) : kb g (.int q a) = (a == g) := rfl
theorem kb_key {g : Int} {v : Value} (hv : IsKey (.int .i64) v) : kb g v = true ↔ v = .int .i64 g := by
  cases v <;> simp_all [IsKey, kb]
theorem perm_filter_del {E : List (Value × Value)} (hp : E.Perm (L.map lkv)) (g : Int) : (E.filter fun p => !kb g p.1).Perm ((del g L).map lkv) := by
  refine (hp.filter _).trans ?_
  rw [List.filter_map]
  refine List.Perm.of_eq (congrArg (List.map lkv) ?_)
  unfold del
  congr 1
theorem nodup_keys {es : Array MapEntry} {c : Nat} (h : Stamped es c) : es.toList.Pairwise (fun x y => x.key ≠ y.key) := ((stamped_iff es c).1 h).2.2
theorem set_cons {α : Type} {l : List α} {j : Nat} (hj : j < l.length) (a : α) : (l.set j a).Perm (a :: l.eraseIdx j) := by
  induction l generalizing j with
  | nil => simp at hj
  | cons b l ih =>
    cases j with
    | zero => exact .refl _
    | succ j =>
      rw [List.set_cons_succ, List.eraseIdx_cons_succ]
      exact ((ih (by simpa using hj)).cons b).trans (.swap a b _)
/-- the others -/
theorem others {l : List MapEntry} (hp : l.Pairwise (fun x y => x.key ≠ y.key)) (hk : ∀ x ∈ l, IsKey (.int .i64) x.key) {g : Int} {j : Nat} {e : MapEntry} (hj : l[j]? = some e) (he : e.key = .int .i64 g) : l.filter (fun x => !kb g x.key) = l.eraseIdx j := by
  induction l generalizing j with
  | nil => simp at hj
  | cons a l ih =>
    obtain ⟨h1, h2⟩ := List.pairwise_cons.1 hp
    cases j with
    | zero =>
      simp only [List.getElem?_cons_zero, Option.some.injEq] at hj
      subst hj
      rw [List.filter_cons_of_neg (by simp [(kb_key (hk a (.head _))).2 he]), List.eraseIdx_cons_zero]
      refine List.filter_eq_self.2 fun x hx => ?_
      cases hb : kb g x.key
      · rfl
      · exact absurd (he.trans ((kb_key (hk x (.tail _ hx))).1 hb).symm) (h1 x hx)
    | succ j =>
      simp only [List.getElem?_cons_succ] at hj
      have hb : kb g a.key = false := by
        cases hb : kb g a.key
        · rfl
        · exact absurd (((kb_key (hk a (.head _))).1 hb).trans he.symm) (h1 e (List.mem_of_getElem? hj))
      rw [List.filter_cons_of_pos (by simp [hb]), ih h2 (fun x hx => hk x (.tail _ hx)) hj, List.eraseIdx_cons_succ]
theorem filter_none {l : List MapEntry} (hk : ∀ x ∈ l, IsKey (.int .i64) x.key) {g : Int} (h : ∀ x ∈ l, x.key ≠ .int .i64 g) : l.filter (fun x => !kb g x.key) = l := List.filter_eq_self.2 fun x hx => by
  cases hb : kb g x.key
  · rfl
  · exact absurd ((kb_key (hk x hx)).1 hb) (h x hx)
theorem filter_kv (l : List MapEntry) (g : Int) : (l.map kv).filter (fun p => !kb g p.1) = (l.filter fun x => !kb g x.key).map kv := by
  rw [List.filter_map]; rfl

/-- delete(m, g) -/
theorem Lm.drop (h : Lm w m L) (g : Int) (ty : TypeId) : ∃ w', (Builtin.delete_ #[55, 3] ty #[.map (some m), .int .i64 g]).run Try.prog w = .ok (.tuple #[]) w' ∧ Lm w' m (del g L) ∧ w.grownBy w' (some m) := by
  obtain ⟨hR, es, clock, hb, hst, hp⟩ := h
  have ht : Try.prog.underlying 55 = some (.map 3 49) := Try.underlying55
  have hq := perm_filter_del hp g
  rw [filter_kv] at hq
  rcases findNow_spec (d := .int .i64) (k := .int .i64 g) rfl es.toList 0 (keys_key hp) with ⟨h1, h2⟩ | ⟨j, e, h1, h2, h3⟩
  · refine ⟨setBlock w m (.map es clock), ?_, ⟨del_rise hR g, es, clock, heap_setBlock_same hb _, hst, ?_⟩, set_grown hb _⟩
    · simp [Builtin.delete_, run_underlying ht, MapKept.run_getObj_map hb, run_checkKey Try.underlying3 (k := .int .i64 g) (d := .int .i64) rfl, run_findKey Try.underlying3 h1, MapKept.run_setObj_map _ hb, Result.andThen, setBlock]
    · rwa [filter_none (keys_key hp) h2] at hq
  · have hjs : j < es.size := by
      have := (List.getElem?_eq_some_iff.1 h2).1
      simpa using this
    have hsub : (es.eraseIdxIfInBounds j).toList = es.toList.eraseIdx j := by
      unfold Array.eraseIdxIfInBounds
      rw [dif_pos hjs]
      simp
    refine ⟨setBlock w m (.map (es.eraseIdxIfInBounds j) clock), ?_, ⟨del_rise hR g, _, clock, heap_setBlock_same hb _, stamped_erase hst j, ?_⟩, set_grown hb _⟩
    · simp [Builtin.delete_, run_underlying ht, MapKept.run_getObj_map hb, run_checkKey Try.underlying3 (k := .int .i64 g) (d := .int .i64) rfl, run_findKey Try.underlying3 h1, MapKept.run_setObj_map _ hb, Result.andThen, setBlock]
    · rw [others (nodup_keys hst) (keys_key hp) h2 h3] at hq
      rw [hsub]
      exact hq

/-- m[x.job] = x -/
theorem Lm.store (h : Lm w m L) (x : Az) : ∃ w', (Instr.mapUpdate 55 (.map (some m)) (.int .i64 x.job) x.val).run Try.prog w = .ok () w' ∧ Lm w' m (put x L) ∧ w.grownBy w' (some m) := by
  obtain ⟨hR, es, clock, hb, hst, hp⟩ := h
  have ht : Try.prog.underlying 55 = some (.map 3 49) := Try.underlying55
  have hq := perm_filter_del hp x.job
  rw [filter_kv] at hq
  have hfin : (lkv x :: (del x.job L).map lkv).Perm ((put x L).map lkv) := by
    unfold put
    exact ((ins_perm x (del x.job L)).map lkv).symm
  rcases findNow_spec (d := .int .i64) (k := .int .i64 x.job) rfl es.toList 0 (keys_key hp) with ⟨h1, h2⟩ | ⟨j, e, h1, h2, h3⟩
  · refine ⟨setBlock w m (.map (es.push { key := .int .i64 x.job, val := x.val, born := clock }) (clock + 1)), ?_, ⟨put_rise hR x, _, _, heap_setBlock_same hb _, stamped_push hst h2, ?_⟩, set_grown hb _⟩
    · simp [Instr.mapUpdate, run_underlying ht, MapKept.run_getObj_map hb, run_checkKey Try.underlying3 (k := .int .i64 x.job) (d := .int .i64) rfl, run_findKey Try.underlying3 h1, MapKept.run_setObj_map _ hb, Result.andThen, setBlock]
    · rw [filter_none (keys_key hp) h2] at hq
      rw [Array.toList_push, List.map_append]
      exact List.perm_append_comm.trans (((hq.cons (lkv x))).trans hfin)
  · have hjs : j < es.size := by
      have := (List.getElem?_eq_some_iff.1 h2).1
      simpa using this
    have hej : es[j]? = some e := by rw [← Array.getElem?_toList]; exact h2
    have hstay : (Instr.keyThatStays (.int .i64 x.job) (.int .i64 x.job)).run Try.prog w = .ok (.int .i64 x.job) w := by
      simp [Instr.keyThatStays, Instr.sameBits]
    refine ⟨setBlock w m (.map (es.modify j fun e => { e with key := .int .i64 x.job, val := x.val }) clock), ?_, ⟨put_rise hR x, _, _, heap_setBlock_same hb _, stamped_modify hst j _ (fun _ _ => rfl) (fun e' _ he' => ?_), ?_⟩, set_grown hb _⟩
    · simp [Instr.mapUpdate, run_underlying ht, MapKept.run_getObj_map hb, run_checkKey Try.underlying3 (k := .int .i64 x.job) (d := .int .i64) rfl, run_findKey Try.underlying3 h1, hej, h3, hstay, MapKept.run_setObj_map _ hb, Result.andThen, setBlock]
    · rw [hej] at he'
      injection he' with he'
      rw [← he', h3]
    · rw [others (nodup_keys hst) (keys_key hp) h2 h3] at hq
      have hset : ((es.modify j fun e => { e with key := .int .i64 x.job, val := x.val }).toList.map kv).Perm (lkv x :: (es.toList.eraseIdx j).map kv) := by
        have e1 : (es.modify j fun e => { e with key := .int .i64 x.job, val := x.val }).toList = es.toList.set j { key := .int .i64 x.job, val := x.val, born := e.born } := by
          apply List.ext_getElem?
          intro i
          rw [Array.getElem?_toList, Array.getElem?_modify, List.getElem?_set]
          by_cases hij : j = i
          · subst hij
            have ej : es[j] = e := (Array.getElem?_eq_some_iff.1 hej).2
            simp [hjs, ej]
          · simp [hij]
        rw [e1]
        have := (set_cons (l := es.toList) (j := j) (by simpa using hjs) { key := .int .i64 x.job, val := x.val, born := e.born }).map kv
        exact this
      exact hset.trans ((hq.cons (lkv x)).trans hfin)

/-- len(m) -/
theorem Lm.len (h : Lm w m L) (ty : TypeId) : (Builtin.len_ #[55] ty #[.map (some m)]).run Try.prog w = .ok (.int .i64 (L.length : Int)) w := by
  obtain ⟨hR, es, clock, hb, hst, hp⟩ := h
  have ht : Try.prog.underlying 55 = some (.map 3 49) := Try.underlying55
  have hl : es.size = L.length := by have := hp.length_eq; simpa using this
  simp [Builtin.len_, run_underlying ht, MapKept.run_getObj_map hb, Result.andThen, hl, goInt]
end
end Go.Proofs.Ytapcmmljdpallaa.K
