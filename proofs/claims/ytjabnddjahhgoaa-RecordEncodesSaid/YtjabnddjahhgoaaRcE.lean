import Derived.Test.YtjabnddjahhgoaaRcD
namespace Go.Proofs.Ytjabnddjahhgoaa
open Go.RowKit
open Rc (L V Ch)

theorem Ca.all {w : World} {A : Nat} {c : Ch} {t : Value} (h : Ca w A c t) : w.cell? ⟨A, 0, none⟩ = some (.int .i64 c.k) ∧ w.cell? ⟨A, 1, none⟩ = some (.int .i64 c.n) ∧ w.cell? ⟨A, 2, none⟩ = some (.int .i64 c.jo) ∧ w.cell? ⟨A, 3, none⟩ = some (.int .i64 c.ba) ∧ w.cell? ⟨A, 4, none⟩ = some (.int .i64 c.sl) ∧ w.cell? ⟨A, 5, none⟩ = some (.int .i64 c.li)
    ∧ w.cell? ⟨A, 6, none⟩ = some (.int .i64 c.rc) ∧ w.cell? ⟨A, 7, none⟩ = some (.int .u64 (c.rb : Int)) ∧ w.cell? ⟨A, 8, none⟩ = some (.string c.pr) ∧ w.cell? ⟨A, 9, none⟩ = some t := by
  unfold Ca at h; simp [World.cell?, h, chC]
def kL : L → FuncId
  | .P => 67 | .T => 68 | .R => 66 | _ => 70
/-- what the looker does with a letter -/
def stL (l : L) (s : Bool × Ch × Value) : Option (Bool × Ch × Value) := some (s.1 || !Rc.may l (Rc.get l s.2.1), Rc.set l Rc.zV s.2.1, match l with | .T => .slice none 0 0 | _ => s.2.2)
theorem runL_look (ls : List L) : ∀ b c t, ∃ t', runL stL ls (b, c, t) = some ((Rc.look ls b c).1, (Rc.look ls b c).2, t') := by
  induction ls with
  | nil => intro b c t; exact ⟨t, rfl⟩
  | cons l ls ih => intro b c t; obtain ⟨t', h⟩ := ih (b || !Rc.may l (Rc.get l c)) (Rc.set l Rc.zV c) (match l with | .T => .slice none 0 0 | _ => t); exact ⟨t', h⟩
theorem lookerV {w0 : World} {A G : Nat} (k : Int) : Visitor A 0 k 54 (.pointer (some ⟨G, 0, none⟩)) (.pointer (some ⟨G, 0, none⟩)) kL (fun s w => LkI w0 A G s w ∧ s.2.1.k = k) (fun _ => True) stL (fun _ _ => True) where
  kind := fun s w h => by rw [← h.2]; exact h.1.ca.c0
  drew := fun s w h => ⟨h.1.drew, h.2⟩
  ahead := fun l w => by cases l <;> kernel_rfl
  meth := fun l w => by cases l <;> kernel_rfl
  run := fun l args w => by cases l <;> rfl
  call := fun l s w _ h => by
    obtain ⟨b, c, t⟩ := s
    have hk : (Rc.set l Rc.zV c).k = k := by rw [Rc.k_set]; exact h.2
    cases l
    case P => exact (ltext_any h.1).mono fun e w' h' => ⟨h'.1, h'.2, hk⟩
    case T => exact (ltexts_any h.1).mono fun e w' h' => ⟨h'.1, h'.2, hk⟩
    case R => exact (lresult_any h.1).mono fun e w' h' => ⟨h'.1, h'.2, hk⟩
    all_goals exact (lwhole_any h.1 rfl).mono fun e w' h' => ⟨h'.1, h'.2, hk⟩
theorem lvisit_any {w0 w : World} {A G : Nat} {b : Bool} {c : Ch} {t : Value} (h : LkI w0 A G (b, c, t) w) (hk : 1 ≤ c.k ∧ c.k ≤ 6) :
    Calls Try.prog 22 #[.pointer (some ⟨A, 0, none⟩), .iface 54 (.pointer (some ⟨G, 0, none⟩))] w fun e w' => e = .returned (.tuple #[]) ∧ ∃ t', LkI w0 A G ((Rc.look (Rc.letters c.k) b c).1, (Rc.look (Rc.letters c.k) b c).2, t') w' := by
  refine (visit_gen (lookerV (w0 := w0) (A := A) (G := G) c.k) (b, c, t) w ⟨h, rfl⟩ (okAll_true _ _ _) hk).mono ?_
  intro e w' hv
  obtain ⟨t', ht⟩ := runL_look (Rc.letters c.k) b c t
  rw [ht] at hv
  exact ⟨hv.1, t', hv.2.1⟩
set_option maxHeartbeats 800000 in
theorem check_any (c : Ch) (t : Value) (w : World) (hT : Tx w t c.tx) (hl : c.tx.length ≤ 140737488351232) :
    Calls Try.prog 12 #[.agg (chC c t)] w fun e w' => e = .returned (.int .i64 (Rc.check c : Int)) ∧ Below w.heap.size w w' := by
  unfold Rc.check
  by_cases h1 : c.k < 1
  · rw [if_pos (.inl h1)]
    go_enter Try.func12, Try.ntmps12
    simp only [chC]
    go_wp2
    go_ret
    exact ⟨rfl, below_alloc _ _⟩
  by_cases h2 : 6 < c.k
  · rw [if_pos (.inr h2)]
    go_enter Try.func12, Try.ntmps12
    simp only [chC]
    go_wp2
    go_ret
    exact ⟨rfl, below_alloc _ _⟩
  rw [if_neg (by omega)]
  generalize hE : (if (Rc.look (Rc.letters c.k) false c).1 = false ∧ (Rc.look (Rc.letters c.k) false c).2 = Rc.zC c.k then 0 else 81) = E
  have HE := hide hE
  clear hE
  have HI : Hid (LkI w w.heap.size (w.heap.size + 1) (false, c, t) ((w.alloc (.cells (chC c t) 29)).alloc (.cells #[.bool false] 51))) := hide
    ⟨(Below.heap_alloc _ _ _ (by simp)).trans (heap_alloc_new w _), by unfold Lk; have := heap_alloc_new (w.alloc (.cells (chC c t) 29)) (.cells #[.bool false] 51); simpa using this,
      (below_alloc w _).alloc (by simp) _, hT, Nat.le_refl _, Nat.le_succ _, by omega, hl⟩
  have HV := hide (lvisit_any HI.out ⟨by omega, by omega⟩)
  clear HI
  go_enter Try.func12, Try.ntmps12
  simp only [chC]
  go_wp2_with fail
  refine HV.out.mono ?_
  rintro e w2 ⟨rfl, t', hI⟩
  have hk := Rc.look_k (Rc.letters c.k) false c
  have HK := hide hk
  clear HV hk
  generalize (Rc.look (Rc.letters c.k) false c).1 = B at *
  generalize (Rc.look (Rc.letters c.k) false c).2 = C at *
  have HBe := hide hI.bel
  obtain ⟨p, cap, ht, -⟩ := hI.tx
  simp only at ht
  subst ht
  have cg := hI.lk.c
  simp only at cg
  cases B
  · obtain ⟨c0, c1, c2, c3, c4, c5, c6, c7, c8, c9⟩ := hI.ca.all
    have HB := hide (isBlank_any C p cap)
    simp only [chC] at HB c0 c1 c2 c3 c4 c5 c6 c7 c8 c9
    clear hI
    go_wp2_with fail
    refine (HB.out _).mono ?_
    rintro e w3 ⟨rfl, rfl⟩
    have HW := hide (HBe.out.alloc HBe.out.size (.cells #[.int .i64 C.k, .int .i64 C.n, .int .i64 C.jo, .int .i64 C.ba, .int .i64 C.sl, .int .i64 C.li, .int .i64 C.rc, .int .u64 (C.rb : Int), .string C.pr, .slice p C.tx.length cap] 29))
    by_cases hz : C = Rc.zC C.k
    · have hE2 := HE.out
      rw [if_pos ⟨by simp, hz.trans (by rw [HK.out])⟩] at hE2
      subst hE2
      rw [decide_eq_true hz]
      clear hz
      go_wp2
      go_ret
      exact ⟨rfl, HW.out⟩
    · have hE2 := HE.out
      rw [if_neg (fun h => hz (h.2.trans (by rw [HK.out])))] at hE2
      subst hE2
      rw [decide_eq_false hz]
      clear hz
      go_wp2
      go_ret
      exact ⟨rfl, HW.out⟩
  · have hE2 := HE.out
    rw [if_neg (by simp)] at hE2
    subst hE2
    clear hI
    go_wp2
    go_ret
    exact ⟨rfl, HBe.out⟩
end Go.Proofs.Ytjabnddjahhgoaa
