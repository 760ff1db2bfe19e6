import Derived.Test.YtlgcimfbhjidgaaMgAM
import Derived.Laws.StructEq

section
namespace Go.Proofs.Ytlgcimfbhjidgaa
open Go.RowKit
open Rc (L V Ch)

theorem toList_inj {a b : ByteArray} (h : a.toList = b.toList) : a = b := by
  rw [ByteArray.toList_eq, ByteArray.toList_eq] at h
  exact ByteArray.ext (Array.toList_inj.mp h)
theorem eql_res (a b : Int) (m n : Nat) (w : World) : (binOp .eql 29 (.agg #[.int .i64 a, .int .u64 (m : Int)]) (.agg #[.int .i64 b, .int .u64 (n : Int)])).run Try.prog w = .ok (.bool (decide (a = b ∧ m = n))) w := by
  have : (Op.equalIn 10000 29 (.agg #[.int .i64 a, .int .u64 (m : Int)]) (.agg #[.int .i64 b, .int .u64 (n : Int)])).run Try.prog w = .ok (decide (a = b ∧ m = n)) w := by
    go_simp
    by_cases e : a = b ∧ m = n
    · obtain ⟨rfl, rfl⟩ := e; simp
    · by_cases h1 : a = b
      · have h2 : ¬ m = n := fun h => e ⟨h1, h⟩
        have h3 : ¬ (m : Int) = (n : Int) := fun h => h2 (by omega)
        simp [h1, h2, h3]
      · simp [h1]
  rw [run_eql_struct, this]; rfl
theorem blank_iff (c : Ch) : c = Rc.zC c.k ↔ c.n = 0 ∧ c.jo = 0 ∧ c.ba = 0 ∧ c.sl = 0 ∧ c.li = 0 ∧ c.rc = 0 ∧ c.rb = 0 ∧ c.pr = ⟨#[]⟩ ∧ c.tx.length = 0 := by
  constructor
  · intro h; rw [h]; exact ⟨rfl, rfl, rfl, rfl, rfl, rfl, rfl, rfl, rfl⟩
  · rintro ⟨h1, h2, h3, h4, h5, h6, h7, h8, h9⟩
    exact Rc.Ch.ext rfl h1 h2 h3 h4 h5 h6 h7 h8 (List.length_eq_zero_iff.mp h9)

set_option maxHeartbeats 800000 in
theorem isBlank_any (c : Ch) (p : Option Addr) (cap : Nat) (w : World) : Calls Try.prog 29 #[.agg (chC c (.slice p c.tx.length cap))] w fun e w' => e = .returned (.bool (decide (c = Rc.zC c.k))) ∧ w' = w.alloc (.cells (chC c (.slice p c.tx.length cap)) 32) := by
  have hb := blank_iff c
  obtain ⟨k, n, jo, ba, sl, li, rc, rb, pr, tx⟩ := c
  simp only [chC] at hb ⊢
  by_cases h_n : n = 0
  case neg =>
    rw [decide_eq_false (fun h => h_n (by have := hb.mp h; omega))]
    have b0 : (n == 0) = false := beq_eq_false_iff_ne.2 h_n
    clear hb h_n
    go_enter Try.func29, Try.ntmps29
    go_wp2
    go_ret
    exact ⟨rfl, rfl⟩
  subst h_n
  by_cases h_jo : jo = 0
  case neg =>
    rw [decide_eq_false (fun h => h_jo (by have := hb.mp h; omega))]
    have b0 : (jo == 0) = false := beq_eq_false_iff_ne.2 h_jo
    clear hb h_jo
    go_enter Try.func29, Try.ntmps29
    go_wp2
    go_ret
    exact ⟨rfl, rfl⟩
  subst h_jo
  by_cases h_ba : ba = 0
  case neg =>
    rw [decide_eq_false (fun h => h_ba (by have := hb.mp h; omega))]
    have b0 : (ba == 0) = false := beq_eq_false_iff_ne.2 h_ba
    clear hb h_ba
    go_enter Try.func29, Try.ntmps29
    go_wp2
    go_ret
    exact ⟨rfl, rfl⟩
  subst h_ba
  by_cases h_sl : sl = 0
  case neg =>
    rw [decide_eq_false (fun h => h_sl (by have := hb.mp h; omega))]
    have b0 : (sl == 0) = false := beq_eq_false_iff_ne.2 h_sl
    clear hb h_sl
    go_enter Try.func29, Try.ntmps29
    go_wp2
    go_ret
    exact ⟨rfl, rfl⟩
  subst h_sl
  by_cases h_li : li = 0
  case neg =>
    rw [decide_eq_false (fun h => h_li (by have := hb.mp h; omega))]
    have b0 : (li == 0) = false := beq_eq_false_iff_ne.2 h_li
    clear hb h_li
    go_enter Try.func29, Try.ntmps29
    go_wp2
    go_ret
    exact ⟨rfl, rfl⟩
  subst h_li
  have hE : ∀ (w : World), (binOp .eql 29 (.agg #[.int .i64 rc, .int .u64 (rb : Int)]) (.agg #[.int .i64 0, .int .u64 0])).run Try.prog w = .ok (.bool (decide (rc = 0 ∧ rb = 0))) w := fun w => eql_res rc 0 rb 0 w
  by_cases h_r : rc = 0 ∧ rb = 0
  case neg =>
    rw [decide_eq_false (fun h => h_r (by have := hb.mp h; omega))]
    rw [decide_eq_false h_r] at hE
    clear hb h_r
    go_enter Try.func29, Try.ntmps29
    go_wp2
    go_ret
    exact ⟨rfl, rfl⟩
  rw [decide_eq_true h_r] at hE
  by_cases h_p : pr = ⟨#[]⟩
  case neg =>
    rw [decide_eq_false (fun h => h_p (by have := hb.mp h; exact this.2.2.2.2.2.2.2.1))]
    have b0 : (pr.toList == []) = false := beq_eq_false_iff_ne.2 (fun h => h_p (toList_inj (h.trans (by rw [ByteArray.toList_eq]))))
    have b1 : ¬ pr.toList = [] := fun h => h_p (toList_inj (h.trans (by rw [ByteArray.toList_eq])))
    clear hb h_r h_p
    go_enter Try.func29, Try.ntmps29
    go_wp2
    go_ret
    exact ⟨rfl, rfl⟩
  subst h_p
  by_cases h_t : tx.length = 0
  case neg =>
    rw [decide_eq_false (fun h => h_t (by have := hb.mp h; exact this.2.2.2.2.2.2.2.2))]
    have b0 : ((tx.length : Int) == 0) = false := beq_eq_false_iff_ne.2 (by omega)
    clear hb h_r
    generalize tx.length = m at *
    clear h_t
    go_enter Try.func29, Try.ntmps29
    go_wp2
    go_ret
    exact ⟨rfl, rfl⟩
  rw [decide_eq_true (hb.mpr ⟨rfl, rfl, rfl, rfl, rfl, h_r.1, h_r.2, rfl, h_t⟩), h_t]
  clear hb h_r
  go_enter Try.func29, Try.ntmps29
  go_wp2
  go_ret
  exact ⟨rfl, rfl⟩
end Go.Proofs.Ytlgcimfbhjidgaa
end

section
namespace Go.Proofs.Ytlgcimfbhjidgaa
open Go.RowKit
open Rc (L V Ch)

theorem Ca.all {w : World} {A : Nat} {c : Ch} {t : Value} (h : Ca w A c t) : w.cell? ⟨A, 0, none⟩ = some (.int .i64 c.k) ∧ w.cell? ⟨A, 1, none⟩ = some (.int .i64 c.n) ∧ w.cell? ⟨A, 2, none⟩ = some (.int .i64 c.jo) ∧ w.cell? ⟨A, 3, none⟩ = some (.int .i64 c.ba) ∧ w.cell? ⟨A, 4, none⟩ = some (.int .i64 c.sl) ∧ w.cell? ⟨A, 5, none⟩ = some (.int .i64 c.li)
    ∧ w.cell? ⟨A, 6, none⟩ = some (.int .i64 c.rc) ∧ w.cell? ⟨A, 7, none⟩ = some (.int .u64 (c.rb : Int)) ∧ w.cell? ⟨A, 8, none⟩ = some (.string c.pr) ∧ w.cell? ⟨A, 9, none⟩ = some t := by
  unfold Ca at h; simp [World.cell?, h, chC]
def kL : L → FuncId
  | .P => 81 | .T => 82 | .R => 80 | _ => 84
/-- what the looker does with a letter -/
def stL (l : L) (s : Bool × Ch × Value) : Option (Bool × Ch × Value) := some (s.1 || !Rc.may l (Rc.get l s.2.1), Rc.set l Rc.zV s.2.1, match l with | .T => .slice none 0 0 | _ => s.2.2)
theorem runL_look (ls : List L) : ∀ b c t, ∃ t', runL stL ls (b, c, t) = some ((Rc.look ls b c).1, (Rc.look ls b c).2, t') := by
  induction ls with
  | nil => intro b c t; exact ⟨t, rfl⟩
  | cons l ls ih => intro b c t; obtain ⟨t', h⟩ := ih (b || !Rc.may l (Rc.get l c)) (Rc.set l Rc.zV c) (match l with | .T => .slice none 0 0 | _ => t); exact ⟨t', h⟩
theorem lookerV {w0 : World} {A G : Nat} (k : Int) : Visitor A 0 k 63 (.pointer (some ⟨G, 0, none⟩)) (.pointer (some ⟨G, 0, none⟩)) kL (fun s w => LkI w0 A G s w ∧ s.2.1.k = k) (fun _ => True) stL (fun _ _ => True) where
  kind := fun s w h => by rw [← h.2]; exact h.1.ca.c0
  drew := fun s w h => ⟨h.1.drew, h.2⟩
  ahead := fun l w => by cases l <;> kernel_rfl
  meth := fun l w => by cases l <;> kernel_rfl
  run := fun l args w => by cases l <;> rfl
  call := fun l s w _ h => by
    obtain ⟨b, c, t⟩ := s
    have hk : (Rc.set l Rc.zV c).k = k := by rw [Rc.k_set]; exact h.2
    cases l
    case P => exact (ltext_any h.1).mono fun e w' h' => ⟨h'.1, h'.2, hk⟩
    case T => exact (ltexts_any h.1).mono fun e w' h' => ⟨h'.1, h'.2, hk⟩
    case R => exact (lresult_any h.1).mono fun e w' h' => ⟨h'.1, h'.2, hk⟩
    all_goals exact (lwhole_any h.1 rfl).mono fun e w' h' => ⟨h'.1, h'.2, hk⟩
theorem lvisit_any {w0 w : World} {A G : Nat} {b : Bool} {c : Ch} {t : Value} (h : LkI w0 A G (b, c, t) w) (hk : 1 ≤ c.k ∧ c.k ≤ 6) :
    Calls Try.prog 19 #[.pointer (some ⟨A, 0, none⟩), .iface 63 (.pointer (some ⟨G, 0, none⟩))] w fun e w' => e = .returned (.tuple #[]) ∧ ∃ t', LkI w0 A G ((Rc.look (Rc.letters c.k) b c).1, (Rc.look (Rc.letters c.k) b c).2, t') w' := by
  refine (visit_gen (lookerV (w0 := w0) (A := A) (G := G) c.k) (b, c, t) w ⟨h, rfl⟩ (okAll_true _ _ _) hk).mono ?_
  intro e w' hv
  obtain ⟨t', ht⟩ := runL_look (Rc.letters c.k) b c t
  rw [ht] at hv
  exact ⟨hv.1, t', hv.2.1⟩
set_option maxHeartbeats 800000 in
theorem check_any (c : Ch) (t : Value) (w : World) (hT : Tx w t c.tx) (hl : c.tx.length ≤ 140737488351232) :
    Calls Try.prog 15 #[.agg (chC c t)] w fun e w' => e = .returned (.int .i64 (Rc.check c : Int)) ∧ Below w.heap.size w w' := by
  unfold Rc.check
  by_cases h1 : c.k < 1
  · rw [if_pos (.inl h1)]
    go_enter Try.func15, Try.ntmps15
    simp only [chC]
    go_wp2
    go_ret
    exact ⟨rfl, below_alloc _ _⟩
  by_cases h2 : 6 < c.k
  · rw [if_pos (.inr h2)]
    go_enter Try.func15, Try.ntmps15
    simp only [chC]
    go_wp2
    go_ret
    exact ⟨rfl, below_alloc _ _⟩
  rw [if_neg (by omega)]
  generalize hE : (if (Rc.look (Rc.letters c.k) false c).1 = false ∧ (Rc.look (Rc.letters c.k) false c).2 = Rc.zC c.k then 0 else 81) = E
  have HE := hide hE
  clear hE
  have HI : Hid (LkI w w.heap.size (w.heap.size + 1) (false, c, t) ((w.alloc (.cells (chC c t) 32)).alloc (.cells #[.bool false] 62))) := hide
    ⟨(Below.heap_alloc _ _ _ (by simp)).trans (heap_alloc_new w _), by unfold Lk; have := heap_alloc_new (w.alloc (.cells (chC c t) 32)) (.cells #[.bool false] 62); simpa using this,
      (below_alloc w _).alloc (by simp) _, hT, Nat.le_refl _, Nat.le_succ _, by omega, hl⟩
  have HV := hide (lvisit_any HI.out ⟨by omega, by omega⟩)
  clear HI
  go_enter Try.func15, Try.ntmps15
  simp only [chC]
  go_wp2_with fail
  refine HV.out.mono ?_
  rintro e w2 ⟨rfl, t', hI⟩
  have hk := Rc.look_k (Rc.letters c.k) false c
  have HK := hide hk
  clear HV hk
  generalize (Rc.look (Rc.letters c.k) false c).1 = B at *
  generalize (Rc.look (Rc.letters c.k) false c).2 = C at *
  have HBe := hide hI.bel
  obtain ⟨p, cap, ht, -⟩ := hI.tx
  simp only at ht
  subst ht
  have cg := hI.lk.c
  simp only at cg
  cases B
  · obtain ⟨c0, c1, c2, c3, c4, c5, c6, c7, c8, c9⟩ := hI.ca.all
    have HB := hide (isBlank_any C p cap)
    simp only [chC] at HB c0 c1 c2 c3 c4 c5 c6 c7 c8 c9
    clear hI
    go_wp2_with fail
    refine (HB.out _).mono ?_
    rintro e w3 ⟨rfl, rfl⟩
    have HW := hide (HBe.out.alloc HBe.out.size (.cells #[.int .i64 C.k, .int .i64 C.n, .int .i64 C.jo, .int .i64 C.ba, .int .i64 C.sl, .int .i64 C.li, .int .i64 C.rc, .int .u64 (C.rb : Int), .string C.pr, .slice p C.tx.length cap] 32))
    by_cases hz : C = Rc.zC C.k
    · have hE2 := HE.out
      rw [if_pos ⟨by simp, hz.trans (by rw [HK.out])⟩] at hE2
      subst hE2
      rw [decide_eq_true hz]
      clear hz
      go_wp2
      go_ret
      exact ⟨rfl, HW.out⟩
    · have hE2 := HE.out
      rw [if_neg (fun h => hz (h.2.trans (by rw [HK.out])))] at hE2
      subst hE2
      rw [decide_eq_false hz]
      clear hz
      go_wp2
      go_ret
      exact ⟨rfl, HW.out⟩
  · have hE2 := HE.out
    rw [if_neg (by simp)] at hE2
    subst hE2
    clear hI
    go_wp2
    go_ret
    exact ⟨rfl, HBe.out⟩
end Go.Proofs.Ytlgcimfbhjidgaa
end

section
namespace Go.Proofs.Ytlgcimfbhjidgaa
open Go.RowKit
open Rc (L V Ch)

def kW : L → FuncId
  | .P => 87 | .T => 88 | .R => 86 | _ => 89
def stW (c : Ch) (l : L) (acc : List UInt8) : Option (List UInt8) := some (acc ++ Rc.lay l (Rc.get l c))
def okW (c : Ch) (l : L) (acc : List UInt8) : Prop := Rc.may l (Rc.get l c) = true ∧ acc.length ≤ 90000000
theorem runL_W (c : Ch) (ls : List L) : ∀ acc, runL (stW c) ls acc = some (acc ++ Rc.body c ls) := by
  induction ls with
  | nil => intro acc; simp [runL, Rc.body]
  | cons l ls ih => intro acc; simp only [runL, stW, Option.bind_some]; rw [ih]; simp [Rc.body]
theorem okAll_W (c : Ch) (ls : List L) (hm : ∀ l ∈ ls, Rc.may l (Rc.get l c) = true) : ∀ acc : List UInt8, acc.length + ls.length * 1100 ≤ 90000000 → okAll (okW c) (stW c) ls acc := by
  induction ls with
  | nil => intro acc _; trivial
  | cons l ls ih =>
    intro acc h
    rw [List.length_cons] at h
    refine ⟨⟨hm l List.mem_cons_self, by omega⟩, fun s' hs => ?_⟩
    simp only [stW, Option.some.injEq] at hs
    rw [← hs]
    have := lay_len (hm l List.mem_cons_self)
    exact ih (fun l' h' => hm l' (List.mem_cons_of_mem _ h')) _ (by rw [List.length_append]; omega)
theorem writerV {w0 : World} {A G : Nat} {c : Ch} {t : Value} (hT : Tx w0 t c.tx) (hr : c.rb < 18446744073709551616) : Visitor A 0 c.k 91 (.pointer (some ⟨G, 0, none⟩)) (.pointer (some ⟨G, 0, none⟩)) kW (fun acc w => Wt w0.heap.size A G c t acc w ∧ Below w0.heap.size w0 w) (fun _ => True) (stW c) (okW c) where
  kind := fun s w h => h.1.ca.c0
  drew := fun s w h => ⟨h.1.drew, h.2.drew⟩
  ahead := fun l w => by cases l <;> kernel_rfl
  meth := fun l w => by cases l <;> kernel_rfl
  run := fun l args w => by cases l <;> rfl
  call := fun l s w hok h => by
    cases l
    case P => exact (wtext_any h.1 _ _ hok.1 hok.2).mono fun _ _ h' => ⟨h'.1, h'.2.1, h.2.trans h'.2.2⟩
    case T => exact (wtexts_any h.1 h.2 hT hok.1 hok.2).mono fun _ _ h' => ⟨h'.1, h'.2⟩
    case R => exact (wresult_any h.1 hok.1 hr hok.2).mono fun _ _ h' => ⟨h'.1, h'.2.1, h.2.trans h'.2.2⟩
    all_goals exact (wwhole_any h.1 rfl _ _ hok.1 hok.2).mono fun _ _ h' => ⟨h'.1, h'.2.1, h.2.trans h'.2.2⟩
theorem wvisit_any {w0 w : World} {A G : Nat} {acc : List UInt8} {c : Ch} {t : Value} (h : Wt w0.heap.size A G c t acc w) (hB : Below w0.heap.size w0 w) (hT : Tx w0 t c.tx) (hr : c.rb < 18446744073709551616) (hc : Rc.Ok c) (hl : acc.length ≤ 80000000) :
    Calls Try.prog 19 #[.pointer (some ⟨A, 0, none⟩), .iface 91 (.pointer (some ⟨G, 0, none⟩))] w fun e w' => e = .returned (.tuple #[]) ∧ Wt w0.heap.size A G c t (acc ++ Rc.body c (Rc.letters c.k)) w' ∧ Below w0.heap.size w0 w' := by
  have h4 : (Rc.letters c.k).length ≤ 4 := by unfold Rc.letters; (repeat' split) <;> simp
  refine (visit_gen (writerV (w0 := w0) (A := A) (G := G) hT hr) acc w ⟨h, hB⟩ (okAll_W c _ hc.2.1 acc (by omega)) hc.1).mono ?_
  intro e w' hv
  rw [runL_W] at hv
  exact hv
/-- a row of changes in memory -/
structure Rw (w : World) (v : Value) (l : List Ch) : Prop where
  form : ∃ p cap, v = .slice p l.length cap ∧ (0 < l.length → ∃ b off, p = some ⟨b, off, none⟩ ∧ b < w.heap.size ∧ ∀ j, j < l.length → ∃ t, Tx w t (l[j]!).tx ∧ (l[j]!).tx.length ≤ 140737488351232 ∧ (l[j]!).rb < 18446744073709551616 ∧ ∀ i u, (chC l[j]! t)[i]? = some u → w.cell? ⟨b, off + j * 10 + i, none⟩ = some u)
theorem Rw.below {w w' : World} {v : Value} {l : List Ch} (h : Rw w v l) {n : Nat} (hb : Below n w w') (hn : w.heap.size ≤ n) : Rw w' v l := by
  obtain ⟨p, cap, hv, h2⟩ := h
  refine ⟨p, cap, hv, fun h0 => ?_⟩
  obtain ⟨b, off, hp, hlt, hc⟩ := h2 h0
  refine ⟨b, off, hp, Nat.lt_of_lt_of_le hlt hb.size, fun j hj => ?_⟩
  obtain ⟨t, ht, h1, h2, h3⟩ := hc j hj
  exact ⟨t, ht.below hb hn, h1, h2, fun i u hi => (hb.cell (p := ⟨b, off + j * 10 + i, none⟩) (Nat.lt_of_lt_of_le hlt hn)).trans (h3 i u hi)⟩
theorem all_step {l : List Ch} {k : Nat} (h : k < l.length) : Rc.all (l.take (k + 1)) = Rc.all (l.take k) ++ Rc.bytes l[k]! := by
  rw [← List.take_append_getElem h, getElem!_pos l k h]; simp only [Rc.all, List.flatMap_append, List.flatMap_cons, List.flatMap_nil, List.append_nil]
theorem body_len (c : Ch) (ls : List L) (hm : ∀ l ∈ ls, Rc.may l (Rc.get l c) = true) : (Rc.body c ls).length ≤ ls.length * 1100 := by
  induction ls with
  | nil => simp [Rc.body]
  | cons l ls ih =>
    have h1 := lay_len (hm l List.mem_cons_self)
    have h2 := ih fun l' h' => hm l' (List.mem_cons_of_mem _ h')
    have e : (Rc.body c (l :: ls)).length = (Rc.lay l (Rc.get l c)).length + (Rc.body c ls).length := by simp [Rc.body]
    rw [e, List.length_cons]; omega
theorem bytes_len {c : Ch} (h : Rc.Ok c) : (Rc.bytes c).length ≤ 5000 := by
  have h4 : (Rc.letters c.k).length ≤ 4 := by unfold Rc.letters; (repeat' split) <;> simp
  have := body_len c _ h.2.1
  have h10 := Pk.enc_ten (n := c.k.toNat) (by have := h.1; omega)
  simp only [Rc.bytes, List.length_append]; omega
theorem all_len (l : List Ch) (h : ∀ c ∈ l, Rc.Ok c) : (Rc.all l).length ≤ l.length * 5000 := by
  induction l with
  | nil => simp [Rc.all]
  | cons c l ih =>
    have h1 := bytes_len (h c List.mem_cons_self)
    have h2 := ih fun x hx => h x (List.mem_cons_of_mem _ hx)
    have e : (Rc.all (c :: l)).length = (Rc.bytes c).length + (Rc.all l).length := by simp [Rc.all]
    rw [e, List.length_cons]; omega
end Go.Proofs.Ytlgcimfbhjidgaa
end

section
namespace Go.Proofs.Ytlgcimfbhjidgaa
open Go.RowKit
open Rc (L V Ch)

set_option maxHeartbeats 800000 in
theorem layRow_any {w : World} {v : Value} {l : List Ch} (h : Rw w v l) (hl : 0 < l.length ∧ l.length ≤ 16) (hok : ∀ c ∈ l, Rc.Ok c) :
    Calls Try.prog 28 #[v] w fun e w' => e = .returned (.string ⟨(Rc.row l).toArray⟩) ∧ Below w.heap.size w w' := by
  obtain ⟨p, cap, rfl, h2⟩ := h
  obtain ⟨b, off, rfl, hlt, hx⟩ := h2 hl.1
  have HX := hide hx
  have HOK : Hid (∀ j, j < l.length → Rc.Ok l[j]!) := hide fun j hj => hok _ (by rw [getElem!_pos l j hj]; exact List.getElem_mem hj)
  have HAL : Hid (∀ k, (Rc.all (l.take k)).length ≤ 80000) := hide fun k => by
    have := all_len (l.take k) fun c hc => hok c (List.mem_of_mem_take hc)
    have h2 : (l.take k).length ≤ 16 := by rw [List.length_take]; omega
    omega
  have h10 := Pk.enc_ten (n := l.length) (by omega)
  clear h2 hx hok
  have H0 : Hid (WtO w.heap.size w.heap.size [] (w.alloc (.cells #[.slice none 0 0] 89))) := hide
    ⟨⟨.slice none 0 0, heap_alloc_new w _, World.ownsRow_nil _ _ _ _⟩, Nat.le_refl _⟩
  generalize hn : l.length = n at *
  have HL := hide (layNumberO_any H0.out n (by omega) (by simp))
  clear H0
  go_enter Try.func28, Try.ntmps28
  go_wp2_with fail
  refine HL.out.mono ?_
  rintro e w1 ⟨rfl, h1, hb1, -⟩
  have H1 := hide h1
  have HB1 := hide ((below_alloc w _).trans hb1)
  have hw1 : w.heap.size < w1.heap.size := by obtain ⟨_, hv, _⟩ := h1.wt; exact lt_of_block hv
  clear HL h1 hb1
  go_wp2_with fail
  go_loopw [11] (fun s wr => ∃ k : Nat, k ≤ n ∧ s = .int .i64 (k : Int) ∧ Hid (WtO w.heap.size w.heap.size (Pk.enc n ++ Rc.all (l.take k)) wr) ∧ Hid (Below w.heap.size w wr)) (fun s _ => n - (intOf s).toNat)
  case atStart => exact ⟨0, Nat.zero_le _, rfl, hide (by have := H1.out; simpa [Rc.all] using this), HB1⟩
  case round =>
    obtain ⟨k, hk, rfl, HK, HBk⟩ := hrel
    by_cases hkl : k < n
    · obtain ⟨t, ht, htl, hrb, hx⟩ := HX.out k hkl
      have hc : ∀ i u, (chC l[k]! t)[i]? = some u → wr.cell? ⟨b, off + k * 10 + i, none⟩ = some u := fun i u hi => (HBk.out.cell (p := ⟨b, off + k * 10 + i, none⟩) hlt).trans (hx i u hi)
      have HS := hide (all_step (l := l) (k := k) (by omega))
      have hOk := HOK.out k hkl
      have hal := HAL.out k
      generalize l[k]! = c at *
      have HT := hide ht
      obtain ⟨pt, capt, rfl, -⟩ := ht
      have c0 : wr.cell? ⟨b, off + k * 10, none⟩ = some (.int .i64 c.k) := hc 0 _ rfl
      have c1 : wr.cell? ⟨b, off + k * 10 + 1, none⟩ = some (.int .i64 c.n) := hc 1 _ rfl
      have c2 : wr.cell? ⟨b, off + k * 10 + 2, none⟩ = some (.int .i64 c.jo) := hc 2 _ rfl
      have c3 : wr.cell? ⟨b, off + k * 10 + 3, none⟩ = some (.int .i64 c.ba) := hc 3 _ rfl
      have c4 : wr.cell? ⟨b, off + k * 10 + 4, none⟩ = some (.int .i64 c.sl) := hc 4 _ rfl
      have c5 : wr.cell? ⟨b, off + k * 10 + 5, none⟩ = some (.int .i64 c.li) := hc 5 _ rfl
      have c6 : wr.cell? ⟨b, off + k * 10 + 6, none⟩ = some (.int .i64 c.rc) := hc 6 _ rfl
      have c7 : wr.cell? ⟨b, off + k * 10 + 7, none⟩ = some (.int .u64 (c.rb : Int)) := hc 7 _ rfl
      have c8 : wr.cell? ⟨b, off + k * 10 + 8, none⟩ = some (.string c.pr) := hc 8 _ rfl
      have c9 : wr.cell? ⟨b, off + k * 10 + 9, none⟩ = some (.slice pt c.tx.length capt) := hc 9 _ rfl
      have hki : (k : Int) < (n : Int) := by omega
      have hbl : b < wr.heap.size := Nat.lt_of_lt_of_le hlt HBk.out.size
      obtain ⟨x, hxk⟩ : ∃ x : Nat, c.k = (x : Int) := ⟨c.k.toNat, by have := hOk.1; omega⟩
      have hx6 : x ≤ 6 := by have := hOk.1; omega
      have HO := hide hOk
      have HXK := hide hxk
      have hb0 : Below wr.heap.size wr (wr.alloc (.cells (chC c (.slice pt c.tx.length capt)) 32)) := below_alloc _ _
      have H2 : Hid (Calls Try.prog 41 #[.pointer (some ⟨w.heap.size, 0, none⟩), .int .i64 c.k] (wr.alloc (.cells (chC c (.slice pt c.tx.length capt)) 32)) _) := hide (by rw [HXK.out]; exact layNumberO_any (HK.out.below hb0) x (by omega) (by rw [List.length_append]; omega))
      have HB2 := hide (HBk.out.trans (hb0.mono HBk.out.size))
      have HC2 : Hid (Ca (wr.alloc (.cells (chC c (.slice pt c.tx.length capt)) 32)) wr.heap.size c (.slice pt c.tx.length capt)) := hide (heap_alloc_new wr _)
      have hsz := HBk.out.size
      clear hc hx hOk hxk HK HBk hb0
      go_wp2_with fail
      refine H2.out.mono ?_
      rintro e w2 ⟨rfl, h2, hb2, hk2⟩
      have hA2 := hk2 _ _ _ HC2.out
      have H3 := hide (wvisit_any (h2.with hA2 hsz) (HB2.out.trans hb2) HT.out hrb HO.out (by rw [List.length_append, List.length_append]; have := Pk.enc_ten (n := x) (by omega); omega))
      clear H2 HB2 HC2 h2 hb2 hk2 hA2
      go_wp2_with fail
      refine H3.out.mono ?_
      rintro e w3 ⟨rfl, h3, hb3⟩
      have H4 := hide h3.o
      have HB4 := hide hb3
      clear H3 h3 hb3
      go_wp2
      go_roundw
      case rel => exact ⟨k + 1, by omega, by go_num, hide (by
        have := H4.out
        rw [HS.out, Rc.bytes, HXK.out, Int.toNat_natCast, ← List.append_assoc, ← List.append_assoc]
        rw [HXK.out] at this
        exact this), HB4⟩
      case measure => simp [intOf]; omega
    · obtain rfl : k = n := by omega
      have hki : ¬ (k : Int) < (k : Int) := by omega
      obtain ⟨v, hv, ho⟩ := HK.out.wt
      have cg : wr.cell? ⟨w.heap.size, 0, none⟩ = some v := by simp [World.cell?, hv]
      have hcv := own_str ho
      obtain ⟨p', m', cap', rfl⟩ := own_slice ho
      have HR : Hid (Rc.row l = Pk.enc k ++ Rc.all (l.take k)) := hide (by rw [← hn, List.take_length]; rfl)
      have HF := hide HBk.out
      clear HK HBk hv ho
      go_wp2
      go_ret
      exact ⟨by rw [HR.out]; rfl, HF.out⟩
end Go.Proofs.Ytlgcimfbhjidgaa
end

section
namespace Go.Proofs.Ytlgcimfbhjidgaa
open Go.RowKit
open Rc (L V Ch)

theorem first_step {l : List Ch} {k : Nat} (h : k < l.length) : Rc.first (l.drop k) = if Rc.check l[k]! ≠ 0 then Rc.check l[k]! else Rc.first (l.drop (k + 1)) := by
  rw [List.drop_eq_getElem_cons h, getElem!_pos l k h]; rfl
theorem Rw.len {w : World} {v : Value} {l : List Ch} (h : Rw w v l) : ∃ p cap, v = .slice p l.length cap := by obtain ⟨p, cap, hv, _⟩ := h; exact ⟨p, cap, hv⟩
set_option maxHeartbeats 800000 in
theorem encode_any {w : World} {v : Value} {l : List Ch} (h : Rw w v l) :
    Calls Try.prog 14 #[v] w fun e w' => e = .returned (.tuple #[.string (Rc.enco l).1, .int .i64 ((Rc.enco l).2 : Int)]) ∧ Below w.heap.size w w' := by
  have HRW := hide h
  obtain ⟨p, cap, rfl, h2⟩ := h
  generalize hE : Rc.enco l = E
  unfold Rc.enco at hE
  by_cases h0 : l.length = 0
  · rw [if_pos (.inl h0)] at hE
    rw [← hE, h0]
    clear h2 HRW
    go_enter Try.func14, Try.ntmps14
    go_wp2
    go_ret2
    exact ⟨rfl, Below.refl _ _⟩
  by_cases h16 : 16 < l.length
  · rw [if_pos (.inr h16)] at hE
    rw [← hE]
    have b0 : ((l.length : Int) == 0) = false := beq_eq_false_iff_ne.2 (by omega)
    have b1 : decide ((16 : Int) < (l.length : Int)) = true := by simp; omega
    clear h2 HRW hE
    generalize l.length = m at *
    go_enter Try.func14, Try.ntmps14
    go_wp2
    go_ret2
    exact ⟨rfl, Below.refl _ _⟩
  rw [if_neg (by omega)] at hE
  have HE := hide hE
  obtain ⟨b, off, rfl, hlt, hx⟩ := h2 (by omega)
  have HX := hide hx
  have b0 : ((l.length : Int) == 0) = false := beq_eq_false_iff_ne.2 (by omega)
  have b1 : decide ((16 : Int) < (l.length : Int)) = false := by simp; omega
  clear h2 hx hE
  generalize hn : l.length = n at *
  go_enter Try.func14, Try.ntmps14
  go_wp2_with fail
  go_loopw [18] (fun s wr => ∃ k : Nat, k ≤ n ∧ s = .int .i64 (k : Int) ∧ Hid (Rc.first l = Rc.first (l.drop k)) ∧ Hid (Below w.heap.size w wr)) (fun s _ => n - (intOf s).toNat)
  case atStart => exact ⟨0, Nat.zero_le _, rfl, hide rfl, hide (Below.refl _ _)⟩
  case round =>
    obtain ⟨k, hk, rfl, HK, HBk⟩ := hrel
    by_cases hkl : k < n
    · obtain ⟨t, ht, htl, hrb, hx⟩ := HX.out k hkl
      have hc : ∀ i u, (chC l[k]! t)[i]? = some u → wr.cell? ⟨b, off + k * 10 + i, none⟩ = some u := fun i u hi => (HBk.out.cell (p := ⟨b, off + k * 10 + i, none⟩) hlt).trans (hx i u hi)
      have HS := hide (HK.out.trans (first_step (l := l) (k := k) (by omega)))
      generalize l[k]! = c at *
      have HT := hide (ht.below HBk.out (Nat.le_refl _))
      obtain ⟨pt, capt, rfl, -⟩ := ht
      have c0 : wr.cell? ⟨b, off + k * 10, none⟩ = some (.int .i64 c.k) := hc 0 _ rfl
      have c1 : wr.cell? ⟨b, off + k * 10 + 1, none⟩ = some (.int .i64 c.n) := hc 1 _ rfl
      have c2 : wr.cell? ⟨b, off + k * 10 + 2, none⟩ = some (.int .i64 c.jo) := hc 2 _ rfl
      have c3 : wr.cell? ⟨b, off + k * 10 + 3, none⟩ = some (.int .i64 c.ba) := hc 3 _ rfl
      have c4 : wr.cell? ⟨b, off + k * 10 + 4, none⟩ = some (.int .i64 c.sl) := hc 4 _ rfl
      have c5 : wr.cell? ⟨b, off + k * 10 + 5, none⟩ = some (.int .i64 c.li) := hc 5 _ rfl
      have c6 : wr.cell? ⟨b, off + k * 10 + 6, none⟩ = some (.int .i64 c.rc) := hc 6 _ rfl
      have c7 : wr.cell? ⟨b, off + k * 10 + 7, none⟩ = some (.int .u64 (c.rb : Int)) := hc 7 _ rfl
      have c8 : wr.cell? ⟨b, off + k * 10 + 8, none⟩ = some (.string c.pr) := hc 8 _ rfl
      have c9 : wr.cell? ⟨b, off + k * 10 + 9, none⟩ = some (.slice pt c.tx.length capt) := hc 9 _ rfl
      have hki : (k : Int) < (n : Int) := by omega
      have hbl : b < wr.heap.size := Nat.lt_of_lt_of_le hlt HBk.out.size
      have hb0 : Below wr.heap.size wr (wr.alloc (.cells (chC c (.slice pt c.tx.length capt)) 32)) := below_alloc _ _
      have H2 := hide (check_any c (.slice pt c.tx.length capt) _ (HT.out.below hb0 (Nat.le_refl _)) htl)
      have HB2 := hide (HBk.out.trans (hb0.mono HBk.out.size))
      have hsz := HBk.out.size
      clear hc hx HK HBk hb0 hrb htl
      generalize Rc.check c = X at *
      go_wp2_with fail
      refine H2.out.mono ?_
      rintro e w2 ⟨rfl, hb2⟩
      have HB3 := hide (HB2.out.trans (hb2.mono (by simp; omega)))
      clear H2 HB2 hb2 HT c0 c1 c2 c3 c4 c5 c6 c7 c8 c9
      by_cases hX : X = 0
      · subst hX
        go_wp2
        go_roundw
        case rel => exact ⟨k + 1, by omega, by go_num, hide (by have := HS.out; rw [if_neg (by simp)] at this; exact this), HB3⟩
        case measure => simp [intOf]; omega
      · have hb : ((X : Int) != 0) = true := by simp [hX]
        have HE2 : Hid (E = (Rc.e0, X)) := hide (by
          have := HS.out
          rw [if_pos hX] at this
          rw [← HE.out, this, if_pos hX])
        clear HE HS
        go_wp2
        go_ret2
        exact ⟨by rw [HE2.out]; rfl, HB3.out⟩
    · obtain rfl : k = n := by omega
      have hki : ¬ (k : Int) < (k : Int) := by omega
      have hf : Rc.first l = 0 := by rw [HK.out, ← hn, List.drop_length]; rfl
      have hE := HE.out
      rw [if_neg (by rw [hf]; simp)] at hE
      have HL := hide (layRow_any (HRW.out.below HBk.out (Nat.le_refl _)) (by omega) fun c hc => (Rc.check_iff c).mp ((Rc.first_iff l).mp hf c hc))
      have HE3 := hide hE
      have hsz := HBk.out.size
      clear hf HK HE hE HRW
      go_wp2_with fail
      refine HL.out.mono ?_
      rintro e w2 ⟨rfl, hb2⟩
      have HB3 := hide (HBk.out.trans (hb2.mono hsz))
      have hz : ((⟨(Rc.row l).toArray⟩ : ByteArray).size : Int) = ((Rc.row l).length : Int) := by simp [ByteArray.size]
      clear HL HBk hb2
      generalize (⟨(Rc.row l).toArray⟩ : ByteArray) = S at *
      generalize (Rc.row l).length = m at *
      by_cases hm : 2048 < m
      · have hd : decide ((2048 : Int) < (S.size : Int)) = true := by rw [hz]; simp; omega
        have hE := HE3.out
        rw [if_pos hm] at hE
        have HE4 := hide hE
        clear HE3 hE
        go_wp2
        go_ret2
        exact ⟨by rw [← HE4.out]; rfl, HB3.out⟩
      · have hd : decide ((2048 : Int) < (S.size : Int)) = false := by rw [hz]; simp; omega
        have hE := HE3.out
        rw [if_neg hm] at hE
        have HE4 := hide hE
        clear HE3 hE
        go_wp2
        go_ret2
        exact ⟨by rw [← HE4.out]; rfl, HB3.out⟩
end Go.Proofs.Ytlgcimfbhjidgaa
end

section
namespace Go.Proofs.Ytlgcimfbhjidgaa
open Go.RowKit
open Rc (L V Ch)

/-- the reader's value -/
def rvB (B : Nat) : Value := .agg #[.pointer (some ⟨B, 0, none⟩)]
/-- a reading call's ending -/
def QPost (w : World) (B : Nat) (b : ByteArray) {α : Type} (f : α → Value) (x : Option (α × Nat)) (e : Ending) (w' : World) : Prop :=
  (match x with | some y => e = .returned (f y.1) ∧ Rd w' B b (y.2 : Int) 0 | none => Gives e 83) ∧ w.grownBy w' (some B)
theorem drewN_below (w : World) (n : Nat) : Below w.heap.size w (w.drewN n) := ⟨rfl, rfl, rfl, Nat.le_refl _, fun _ _ => rfl⟩
theorem need_ok {w : World} {B : Nat} {b : ByteArray} {p : Int} (h : Rd w B b p 0) :
    Calls Try.prog 17 #[rvB B, .bool true] w fun e w' => e = .returned (.tuple #[]) ∧ Below w.heap.size w w' := by
  have hnot : ∀ (x : Bool) (w : World), (Op.unary .not (.bool x)).run Try.prog w = .ok (.bool (!x)) w := fun _ _ => rfl
  have HF := hide (fault_any (h.alloc (.cells #[.pointer (some ⟨B, 0, none⟩)] 48)))
  unfold rvB
  clear h
  go_enter Try.func17, Try.ntmps17
  go_wp2_with fail
  refine HF.out.mono ?_
  rintro e w1 ⟨rfl, n, rfl⟩
  go_wp2
  go_end0
  exact ⟨rfl, (below_alloc w _).trans ((drewN_below _ n).mono (by simp))⟩
theorem need_no {w : World} {B : Nat} {b : ByteArray} {p f : Int} (h : Rd w B b p f) (m : Bool) (hm : f ≠ 0 ∨ m = false) :
    Calls Try.prog 17 #[rvB B, .bool m] w fun e w' => Gives e 83 ∧ Below w.heap.size w w' := by
  have hnot : ∀ (x : Bool) (w : World), (Op.unary .not (.bool x)).run Try.prog w = .ok (.bool (!x)) w := fun _ _ => rfl
  have HF := hide (fault_any (h.alloc (.cells #[.pointer (some ⟨B, 0, none⟩)] 48)))
  unfold rvB
  clear h
  by_cases h0 : f = 0
  · obtain rfl : m = false := hm.resolve_left (fun h => h h0)
    subst h0
    clear hm
    go_enter Try.func17, Try.ntmps17
    go_wp2_with fail
    refine HF.out.mono ?_
    rintro e w1 ⟨rfl, n, rfl⟩
    go_wp2
    exact ⟨rfl, rfl, (below_alloc w _).trans ((drewN_below _ n).mono (by simp))⟩
  · have b0 : (f != 0) = true := by rw [bne_iff_ne]; exact h0
    rw [if_neg h0] at HF
    clear hm h0
    go_enter Try.func17, Try.ntmps17
    go_wp2_with fail
    refine HF.out.mono ?_
    rintro e w1 ⟨rfl, n, rfl⟩
    go_wp2
    exact ⟨rfl, rfl, (below_alloc w _).trans ((drewN_below _ n).mono (by simp))⟩
theorem rd_below {w w' : World} {B : Nat} {b : ByteArray} {p f : Int} (h : Rd w B b p f) (hb : Below w.heap.size w w') : Rd w' B b p f := (hb.block _ (lt_of_block h)).trans h
set_option maxHeartbeats 400000 in
theorem rnumber_any {w : World} {B p : Nat} {b : ByteArray} (h : Rd w B b p 0) (hp : p ≤ b.size) (hb : b.size ≤ 140737488351232) (lo hi : Nat) (hh : hi < 9223372036854775808) :
    Calls Try.prog 18 #[rvB B, .int .i64 (lo : Int), .int .i64 (hi : Int)] w (QPost w B b (fun n : Nat => .int .i64 (n : Int)) (Rc.rN b lo hi p)) := by
  have HN := hide (rnumP (most := hi) (h.alloc (.cells #[.pointer (some ⟨B, 0, none⟩)] 48)) hp hb)
  have hlt := lt_of_block h
  unfold rvB
  by_cases hk : numK b p hi 21 = 0
  · have hr : Wr.rdN b hi p 0 = (numV b p, numQ b p, 0) := by unfold Wr.rdN; rw [if_neg (by simp), if_pos hk]
    have hv : numV b p ≤ hi := by obtain ⟨_, _, h2, _⟩ := num_form hp (by decide) hk; exact h2
    rw [hr] at HN
    have HR : Hid (Rc.rN b lo hi p = if lo ≤ numV b p then some (numV b p, numQ b p) else none) := hide (by unfold Rc.rN; simp only [hk, true_and])
    clear hr hk h
    generalize numV b p = N at *
    generalize numQ b p = q at *
    go_enter Try.func18, Try.ntmps18
    go_wp2_with fail
    refine HN.out.mono ?_
    rintro e w1 ⟨rfl, h1, hg1⟩
    have cb : w1.cell? ⟨w.heap.size, 0, none⟩ = some (.pointer (some ⟨B, 0, none⟩)) := hg1.cell (show (w.alloc (.cells #[.pointer (some ⟨B, 0, none⟩)] 48)).cell? ⟨w.heap.size, 0, none⟩ = _ by rw [World.cell?_alloc_at _ _ _ _ rfl]; rfl) (by simp; omega)
    have HG := hide (grown_trans (grown_below (below_alloc w (.cells #[.pointer (some ⟨B, 0, none⟩)] 48)) (some B)) hg1)
    have H1 := hide h1
    clear HN hg1 h1
    by_cases hl : lo ≤ N
    · have hd : decide (lo ≤ N) = true := decide_eq_true hl
      have HR2 : Hid (Rc.rN b lo hi p = some (N, q)) := hide (by rw [HR.out, if_pos hl])
      have HK := hide (need_ok H1.out)
      unfold rvB at HK
      clear HR hl
      go_wp2_with fail
      refine HK.out.mono ?_
      rintro e w2 ⟨rfl, hb2⟩
      have HF : Hid (Rd w2 B b (q : Int) 0 ∧ w.grownBy w2 (some B)) := hide ⟨rd_below H1.out hb2, grown_trans HG.out (grown_below hb2 _)⟩
      clear hb2 H1 HG HK
      go_wp2
      go_ret
      unfold QPost
      rw [HR2.out]
      exact ⟨⟨rfl, HF.out.1⟩, HF.out.2⟩
    · have hd : decide (lo ≤ N) = false := decide_eq_false hl
      have HR2 : Hid (Rc.rN b lo hi p = none) := hide (by rw [HR.out, if_neg hl])
      have HK := hide (need_no H1.out false (.inr rfl))
      unfold rvB at HK
      clear HR hl
      go_wp2_with fail
      refine HK.out.mono ?_
      rintro e w2 ⟨he, hb2⟩
      unfold Gives at he
      subst he
      have HF : Hid (w.grownBy w2 (some B)) := hide (grown_trans HG.out (grown_below hb2 _))
      clear hb2 H1 HG HK
      go_wp2
      refine ⟨rfl, ?_⟩
      unfold QPost
      rw [HR2.out]
      exact ⟨rfl, HF.out⟩
  · have hr : Wr.rdN b hi p 0 = (0, p, numK b p hi 21) := by unfold Wr.rdN; rw [if_neg (by simp), if_neg hk]
    rw [hr] at HN
    have HR : Hid (Rc.rN b lo hi p = none) := hide (by unfold Rc.rN; rw [if_neg (fun h => hk h.1)])
    have hk' : ((numK b p hi 21 : Nat) : Int) ≠ 0 := by omega
    clear hr hk h
    generalize numK b p hi 21 = f at *
    go_enter Try.func18, Try.ntmps18
    go_wp2_with fail
    refine HN.out.mono ?_
    rintro e w1 ⟨rfl, h1, hg1⟩
    have cb : w1.cell? ⟨w.heap.size, 0, none⟩ = some (.pointer (some ⟨B, 0, none⟩)) := hg1.cell (show (w.alloc (.cells #[.pointer (some ⟨B, 0, none⟩)] 48)).cell? ⟨w.heap.size, 0, none⟩ = _ by rw [World.cell?_alloc_at _ _ _ _ rfl]; rfl) (by simp; omega)
    have HG := hide (grown_trans (grown_below (below_alloc w (.cells #[.pointer (some ⟨B, 0, none⟩)] 48)) (some B)) hg1)
    have HK := hide (fun m => need_no h1 m (.inl hk'))
    unfold rvB at HK
    clear HN hg1 h1 hk'
    go_wp2_with fail
    refine (HK.out _).mono ?_
    rintro e w2 ⟨he, hb2⟩
    unfold Gives at he
    subst he
    have HF : Hid (w.grownBy w2 (some B)) := hide (grown_trans HG.out (grown_below hb2 _))
    clear hb2 HG HK
    go_wp2
    refine ⟨rfl, ?_⟩
    unfold QPost
    rw [HR.out]
    exact ⟨rfl, HF.out⟩
end Go.Proofs.Ytlgcimfbhjidgaa
end

section
namespace Go.Proofs.Ytlgcimfbhjidgaa
open Go.RowKit
open Rc (L V Ch)

def strs (l : List ByteArray) : List Value := l.map Value.string
theorem own_typeS {w : World} {n0 n : Nat} {v : Value} {xs : List Value} (h : w.ownsRow n0 9 1 v n xs) {X : Nat} {cs : Array Value} {ty : TypeId} (hX : w.heap[X]? = some (.cells cs ty (0, 0))) (hty : ty ≠ 9) : some X ≠ v.ownBlock := by
  rcases h.2 with ⟨rfl, _⟩ | ⟨g, cap, cur, rfl, _, hg, _⟩
  · simp [Value.ownBlock]
  · intro e
    simp only [Value.ownBlock, Option.some.injEq] at e
    subst e
    rw [hg] at hX
    simp only [Option.some.injEq, Obj.cells.injEq] at hX
    exact hty hX.2.1.symm
theorem own_stepS {w w' : World} {n0 n : Nat} {v : Value} {xs : List Value} (h : w.ownsRow n0 9 1 v n xs) (hb : ∀ X, some X = v.ownBlock → w'.heap[X]? = w.heap[X]?) : w'.ownsRow n0 9 1 v n xs := by
  refine ⟨h.1, ?_⟩
  rcases h.2 with h2 | ⟨g, cap, cur, rfl, h3, hg, h4⟩
  · exact .inl h2
  · exact .inr ⟨g, cap, cur, rfl, h3, (hb g rfl).trans hg, h4⟩
/-- the reader's state: place and change, the change among others -/
structure RdI (w0 w1 : World) (A B : Nat) (b : ByteArray) (pre post : List Value) (s : Nat × Ch) (w : World) : Prop where
  rd : Rd w B b (s.1 : Int) 0
  hp : s.1 ≤ b.size
  ch : ∃ t, w.heap[A]? = some (.cells (pre ++ (chC s.2 t).toList ++ post).toArray 32 (0, 0)) ∧ w.ownsRow w0.heap.size 9 1 t s.2.tx.length (strs s.2.tx)
  bel : Below w0.heap.size w0 w
  hA : w0.heap.size ≤ A
  hB : w0.heap.size ≤ B
  size : w1.heap.size ≤ w.heap.size
  kp : ∀ g, g < w1.heap.size → g ≠ A → g ≠ B → w.heap[g]? = w1.heap[g]?
variable {w0 w1 : World} {A B : Nat} {b : ByteArray} {pre post : List Value}
theorem RdI.ne {s : Nat × Ch} {w : World} (h : RdI w0 w1 A B b pre post s w) : A ≠ B := by
  obtain ⟨t, ht, _⟩ := h.ch
  intro e; subst e
  have := h.rd; unfold Rd at this; rw [this] at ht
  simp only [Option.some.injEq, Obj.cells.injEq] at ht
  exact absurd ht.2.1 (by decide)
theorem RdI.grown {p q : Nat} {c : Ch} {w w' : World} (h : RdI w0 w1 A B b pre post (p, c) w) (hg : w.grownBy w' (some B)) (hr : Rd w' B b (q : Int) 0) (hq : q ≤ b.size) : RdI w0 w1 A B b pre post (q, c) w' := by
  obtain ⟨t, ht, ho⟩ := h.ch
  have hBt := own_typeS ho (show w.heap[B]? = some (.cells _ 66 (0, 0)) from h.rd) (by decide)
  refine ⟨hr, hq, ⟨t, (hg.block _ (lt_of_block ht) (by simpa using h.ne)).trans ht, own_stepS ho fun X hX => hg.block _ (ho.lt X hX.symm).2 (fun e => hBt (by rw [← e]; exact hX))⟩, ?_, h.hA, h.hB, Nat.le_trans h.size hg.size, fun g h1 h2 h3 => (hg.block _ (Nat.lt_of_lt_of_le h1 h.size) (by simpa using h3)).trans (h.kp g h1 h2 h3)⟩
  exact h.bel.trans ⟨hg.os, hg.tape, hg.output, hg.size, fun k hk => hg.block _ (Nat.lt_of_lt_of_le hk h.bel.size) (by simp; have := h.hB; omega)⟩
theorem RdI.below {s : Nat × Ch} {w w' : World} (h : RdI w0 w1 A B b pre post s w) (hb : Below w.heap.size w w') : RdI w0 w1 A B b pre post s w' := by
  obtain ⟨p, c⟩ := s
  exact h.grown (grown_below hb _) (rd_below h.rd hb) h.hp
theorem RdI.drew {s : Nat × Ch} {w : World} (h : RdI w0 w1 A B b pre post s w) : RdI w0 w1 A B b pre post s w.drew := h.below (Below.refl _ _).drew
theorem mid_set (pre post m : List Value) (j : Nat) (hj : j < m.length) (u : Value) : (pre ++ m ++ post).toArray.setIfInBounds (pre.length + j) u = (pre ++ m.set j u ++ post).toArray := by
  rw [List.setIfInBounds_toArray]
  congr 1
  rw [List.append_assoc, List.set_append, if_neg (by omega), List.append_assoc]
  congr 1
  rw [show pre.length + j - pre.length = j by omega, List.set_append, if_pos hj]
theorem RdI.put {p : Nat} {c : Ch} {w : World} (h : RdI w0 w1 A B b pre post (p, c) w) (j : Nat) (hj : j < 10) (u : Value) (c' : Ch) (hc : ∀ t, (chC c t).toList.set j u = (chC c' t).toList) (ht' : c'.tx = c.tx) :
    RdI w0 w1 A B b pre post (p, c') (w.setCell ⟨A, pre.length + j, none⟩ u) := by
  obtain ⟨t, ht, ho⟩ := h.ch
  have hAt := own_typeS ho ht (by decide)
  refine ⟨(Below.heap_setCell _ _ _ _ (fun e => h.ne e.symm)).trans h.rd, h.hp, ⟨t, ?_, ?_⟩, h.bel.setCell h.hA _, h.hA, h.hB, ?_, fun g h1 h2 h3 => (Below.heap_setCell _ _ _ _ h2).trans (h.kp g h1 h2 h3)⟩
  · rw [cells_set ht, mid_set _ _ _ _ (by simpa [chC] using hj), hc]
  · rw [ht']; exact own_stepS ho fun X hX => Below.heap_setCell _ _ _ _ (fun e => hAt (by rw [show A = X from e.symm]; exact hX))
  · have := h.size; simpa using this
theorem RdI.cell {p : Nat} {c : Ch} {w : World} (h : RdI w0 w1 A B b pre post (p, c) w) (j : Nat) (hj : j < 10) : ∃ u, w.cell? ⟨A, pre.length + j, none⟩ = some u ∧ ∃ t, (chC c t)[j]? = some u := by
  obtain ⟨t, ht, ho⟩ := h.ch
  have hl : j < (chC c t).size := by simpa [chC] using hj
  refine ⟨(chC c t)[j], ?_, t, by simp [hl]⟩
  simp only [World.cell?, ht]
  simp [List.getElem?_append_left, List.getElem?_append_right, hl]
theorem RdI.z {s : Nat × Ch} {w : World} (h : RdI w0 w1 A B b pre post s w) (k : Nat) : w.frozen? ⟨A, k, none⟩ = false := by
  obtain ⟨t, ht, _⟩ := h.ch
  simp [World.frozen?, ht]
theorem RdI.ltA {s : Nat × Ch} {w : World} (h : RdI w0 w1 A B b pre post s w) : A < w.heap.size := by
  obtain ⟨t, ht, _⟩ := h.ch
  exact lt_of_block ht
/-- what is there when reading gives up -/
def RdQ (w0 : World) (w : World) : Prop := Below w0.heap.size w0 w
theorem RdI.giveG {s : Nat × Ch} {w w' : World} (h : RdI w0 w1 A B b pre post s w) (hg : w.grownBy w' (some B)) : RdQ w0 w' :=
  h.bel.trans ⟨hg.os, hg.tape, hg.output, hg.size, fun k hk => hg.block _ (Nat.lt_of_lt_of_le hk h.bel.size) (by simp; have := h.hB; omega)⟩
/-- what reading a letter comes to -/
def stR (b : ByteArray) (l : L) (s : Nat × Ch) : Option (Nat × Ch) := (Rc.rF b l s.1).map fun x => (x.2, Rc.set l x.1 s.2)
theorem runL_R (b : ByteArray) (ls : List L) : ∀ s, runL (stR b) ls s = (Rc.rFs b ls s.1 s.2).map fun x => (x.2, x.1) := by
  induction ls with
  | nil => intro s; rfl
  | cons l ls ih =>
    intro s
    simp only [runL, stR, Rc.rFs]
    cases h : Rc.rF b l s.1 with
    | none => rfl
    | some x => simp only [Option.map_some, Option.bind_some]; rw [ih]
set_option maxHeartbeats 400000 in
theorem rwhole_any {p : Nat} {c : Ch} {w : World} (h : RdI w0 w1 A B b pre post (p, c) w) (hb : b.size ≤ 140737488351232) {l : L} (hl : isW l = true) :
    Calls Try.prog 68 #[rvB B, .pointer (some ⟨A, pre.length + offL l, none⟩), .int .i64 (Rc.least l : Int), .int .i64 (Rc.most l : Int)] w (Vis (RdI w0 w1 A B b pre post) (RdQ w0) (stR b l (p, c))) := by
  have hj : offL l < 10 := by cases l <;> decide
  have hh : Rc.most l < 9223372036854775808 := by cases l <;> decide
  have h1 := h.below (below_alloc w (.cells #[.pointer (some ⟨B, 0, none⟩)] 48))
  have HN := hide (rnumber_any h1.rd h.hp hb (Rc.least l) (Rc.most l) hh)
  have hAl := h.ltA
  have hBl := lt_of_block h.rd
  have HH := hide h1
  cases hr : Rc.rN b (Rc.least l) (Rc.most l) p with
  | none =>
    have HS : Hid (stR b l (p, c) = none) := hide (by unfold stR; cases l <;> first | (cases hl; done) | simp [Rc.rF, hr])
    rw [hr] at HN
    unfold rvB at *
    clear h h1 hr
    generalize pre.length + offL l = q at *
    generalize (Rc.least l : Int) = lo at *
    generalize (Rc.most l : Int) = hi at *
    go_enter Try.func68, Try.ntmps68
    go_wp2_with fail
    refine HN.out.mono ?_
    rintro e w2 ⟨he, hg⟩
    have HQ := hide (HH.out.giveG hg)
    unfold Gives at he
    subst he
    clear HN HH hg
    go_wp2
    refine ⟨rfl, ?_⟩
    exact Vis.none HS.out rfl HQ.out
  | some y =>
    obtain ⟨N, q2⟩ := y
    have hq2 := (Rc.rN_form h.hp hr).1
    have HS : Hid (stR b l (p, c) = some (q2, Rc.set l ⟨(N : Int), 0, Rc.e0, []⟩ c)) := hide (by unfold stR; cases l <;> first | (cases hl; done) | simp [Rc.rF, hr])
    have HP : Hid (∀ W, RdI w0 w1 A B b pre post (q2, c) W → RdI w0 w1 A B b pre post (q2, Rc.set l ⟨(N : Int), 0, Rc.e0, []⟩ c) (W.setCell ⟨A, pre.length + offL l, none⟩ (.int .i64 (N : Int)))) := hide fun W hW =>
      hW.put (offL l) hj _ _ (fun t => by cases l <;> first | (cases hl; done) | rfl) (by cases l <;> first | (cases hl; done) | rfl)
    have HC : Hid (∀ W, RdI w0 w1 A B b pre post (q2, c) W → (∃ x, W.cell? ⟨A, pre.length + offL l, none⟩ = some (.int .i64 x)) ∧ W.frozen? ⟨A, pre.length + offL l, none⟩ = false) := hide fun W hW => by
      obtain ⟨u, hu, t, ht⟩ := hW.cell (offL l) hj
      refine ⟨?_, hW.z _⟩
      cases l <;> first | (cases hl; done) | (simp [chC, offL] at ht; exact ⟨_, by rw [hu, ← ht]⟩)
    rw [hr] at HN
    unfold rvB at *
    clear h h1 hr
    generalize pre.length + offL l = q at *
    generalize (Rc.least l : Int) = lo at *
    generalize (Rc.most l : Int) = hi at *
    go_enter Try.func68, Try.ntmps68
    go_wp2_with fail
    refine HN.out.mono ?_
    rintro e w2 ⟨⟨rfl, hr2⟩, hg⟩
    have h2 := HH.out.grown hg hr2 hq2
    have HF := hide (HP.out _ h2)
    obtain ⟨⟨x, hx⟩, hz⟩ := HC.out _ h2
    clear HN HH hg hr2 HP HC h2
    go_wp2
    go_end0
    exact Vis.some HS.out HF.out
end Go.Proofs.Ytlgcimfbhjidgaa
end
