import Derived.Test.YtaikogbeaohmhaaSeN
import Derived.Test.YtaikogbeaohmhaaSeSl
namespace Go.Proofs.Ytaikogbeaohmhaa
open Go.RowKit

/-- two rows of rows tell the same -/
def Like : List Dk → List Dk → Prop
  | [], [] => True
  | d :: D, e :: E => ((d.li = 0 ∧ e.li = 0) ∨ d = e) ∧ Like D E
  | [], _ :: _ => False
  | _ :: _, [] => False
theorem Like.len : ∀ {D E : List Dk}, Like D E → D.length = E.length
  | [], [], _ => rfl
  | d :: D, e :: E, h => by simp only [List.length_cons]; rw [Like.len h.2]
theorem Like.get : ∀ {D E : List Dk}, Like D E → ∀ {i : Nat} {d : Dk}, D[i]? = some d → ∃ e, E[i]? = some e ∧ ((d.li = 0 ∧ e.li = 0) ∨ d = e)
  | [], [], _, i, d, hd => by cases hd
  | x :: D, y :: E, h, 0, d, hd => by injection hd with hd; subst hd; exact ⟨y, rfl, h.1⟩
  | x :: D, y :: E, h, i + 1, d, hd => Like.get h.2 hd
theorem Like.set : ∀ {D E : List Dk}, Like D E → ∀ (i : Nat) (d : Dk), Like (D.set i d) (E.set i d)
  | [], [], _, _, _ => trivial
  | _ :: _, _ :: _, h, 0, _ => ⟨.inr rfl, h.2⟩
  | _ :: _, _ :: _, h, i + 1, d => ⟨h.1, Like.set h.2 i d⟩
theorem Like.live : ∀ {D E : List Dk}, Like D E → live D = live E
  | [], [], _ => rfl
  | x :: D, y :: E, h => by
    have ih := Like.live h.2
    unfold Go.Proofs.Ytaikogbeaohmhaa.live at ih ⊢
    rcases h.1 with ⟨h1, h2⟩ | h1
    · rw [List.filter_cons_of_neg (by simp [h1]), List.filter_cons_of_neg (by simp [h2])]; exact ih
    · subst h1
      by_cases h0 : x.li = 0
      · rw [List.filter_cons_of_neg (by simp [h0]), List.filter_cons_of_neg (by simp [h0])]; exact ih
      · rw [List.filter_cons_of_pos (by simp [h0]), List.filter_cons_of_pos (by simp [h0]), ih]
theorem like_zero : ∀ (D E : List Dk), D.length = E.length → (∀ d ∈ D, d.li = 0) → (∀ e ∈ E, e.li = 0) → Like D E
  | [], [], _, _, _ => trivial
  | x :: D, y :: E, hl, h1, h2 => ⟨.inl ⟨h1 x (List.mem_cons_self ..), h2 y (List.mem_cons_self ..)⟩, like_zero D E (by simpa using hl) (fun d hd => h1 d (List.mem_cons_of_mem _ hd)) (fun e he => h2 e (List.mem_cons_of_mem _ he))⟩
theorem Like.at_ {D E : List Dk} (h : Like D E) (s : Int) : (atD D s = none ∧ atD E s = none) ∨ ∃ d e, atD D s = some d ∧ atD E s = some e ∧ ((d.li = 0 ∧ e.li = 0) ∨ d = e) := by
  unfold atD
  by_cases h0 : 0 ≤ s
  · rw [if_pos h0, if_pos h0]
    cases hd : D[s.toNat]? with
    | none =>
      have := List.getElem?_eq_none_iff.1 hd
      exact .inl ⟨rfl, List.getElem?_eq_none_iff.2 (by rw [← h.len]; exact this)⟩
    | some d =>
      obtain ⟨e, he, hr⟩ := h.get hd
      exact .inr ⟨d, e, rfl, he, hr⟩
  · rw [if_neg h0, if_neg h0]; exact .inl ⟨rfl, rfl⟩
theorem Like.hello {D E : List Dk} (h : Like D E) (s life : Int) : tHello E s life = tHello D s life := by
  unfold tHello
  rcases h.at_ s with ⟨h1, h2⟩ | ⟨d, e, h1, h2, h3⟩
  · rw [h1, h2]
  · rw [h1, h2]
    rcases h3 with ⟨a, b⟩ | h3
    · simp only [a, b]
      by_cases hc : cnt life
      · have n1 : ¬ (0 : Int) = life := by have := hc.1; omega
        simp only [hc, not_true_eq_false, if_false, n1]
      · simp only [hc, not_false_eq_true, if_true]
    · subst h3; rfl
theorem Like.ask {D E : List Dk} (h : Like D E) (s life se n : Int) : tAsk E s life se n = tAsk D s life se n := by
  unfold tAsk
  rcases h.at_ s with ⟨h1, h2⟩ | ⟨d, e, h1, h2, h3⟩
  · rw [h1, h2]
  · rw [h1, h2]
    rcases h3 with ⟨a, b⟩ | h3
    · simp only [a, b, if_true]
    · subst h3; rfl
theorem Like.opn {D E : List Dk} (h : Like D E) (s life se : Int) : (tOpen E s life se).e = (tOpen D s life se).e ∧ Like (tOpen D s life se).D (tOpen E s life se).D := by
  unfold tOpen
  rcases h.at_ s with ⟨h1, h2⟩ | ⟨d, e, h1, h2, h3⟩
  · rw [h1, h2]; exact ⟨rfl, h⟩
  · rw [h1, h2]
    simp only
    by_cases hc : cnt life
    · by_cases hs : cnt se
      · simp only [hc, hs, not_true_eq_false, if_false]
        rcases h3 with ⟨a, b⟩ | h3
        · have n1 : ¬ life < 0 := by have := hc.1; omega
          simp only [a, b, n1, if_false]
          exact ⟨trivial, h.set _ _⟩
        · subst h3
          by_cases hl : life < d.li
          · simp only [hl, if_true]; exact ⟨trivial, h⟩
          · simp only [hl, if_false]; exact ⟨trivial, h.set _ _⟩
      · simp only [hc, hs, not_true_eq_false, not_false_eq_true, if_false, if_true]; exact ⟨trivial, h⟩
    · simp only [hc, not_false_eq_true, if_true]; exact ⟨trivial, h⟩
theorem Like.ans {D E : List Dk} (h : Like D E) (s : Int) (rp : ByteArray) : (tAnswer E s rp).e = (tAnswer D s rp).e ∧ Like (tAnswer D s rp).D (tAnswer E s rp).D := by
  unfold tAnswer
  rcases h.at_ s with ⟨h1, h2⟩ | ⟨d, e, h1, h2, h3⟩
  · rw [h1, h2]; exact ⟨rfl, h⟩
  · rw [h1, h2]
    simp only
    rcases h3 with ⟨a, b⟩ | h3
    · simp only [a, b, if_true]; exact ⟨trivial, h⟩
    · subst h3
      by_cases h0 : d.li = 0
      · simp only [h0, if_true]; exact ⟨trivial, h⟩
      · by_cases hm : d.la = 1099511627776
        · simp only [h0, hm, if_false, if_true]; exact ⟨trivial, h⟩
        · simp only [h0, hm, if_false]; exact ⟨trivial, h.set _ _⟩
/-- the document's new rows -/
def newE (n : Nat) : List Dk := (List.range n).map fun (i : Nat) => ⟨(i : Int), 0, 0, 0, e0⟩
theorem newE_len (n : Nat) : (newE n).length = n := by simp [newE]
theorem newE_succ (n : Nat) : newE (n + 1) = newE n ++ [⟨(n : Int), 0, 0, 0, e0⟩] := by simp [newE, List.range_succ]
theorem newE_li (n : Nat) : ∀ e ∈ newE n, e.li = 0 := by
  intro e he
  simp only [newE, List.mem_map] at he
  obtain ⟨i, _, rfl⟩ := he
  rfl
theorem newE_ok (n : Nat) : DOk (newE n) := by
  intro i d h
  have hm : d ∈ newE n := List.mem_of_getElem? h
  simp only [newE, List.mem_map] at hm
  obtain ⟨i, _, rfl⟩ := hm
  simp only
  decide
theorem like_new (n : Nat) : Like (newD n) (newE n) := like_zero _ _ (by rw [newD_len, newE_len]) (fun d hd => by rw [List.eq_of_mem_replicate hd]; rfl) (newE_li n)

/-- what a call of the document's NewTable leaves -/
def RPost (x : Int) (w : World) (e : Ending) (w' : World) : Prop :=
  (¬ (1 ≤ x ∧ x ≤ 8) ∧ e = .returned (.tuple #[.pointer none, .int .i64 130]) ∧ w' = w) ∨ (∃ n b g cap : Nat, x = (n : Int) ∧ 1 ≤ n ∧ n ≤ 8 ∧ e = .returned (.tuple #[.pointer (some ⟨b, 0, none⟩), .int .i64 0]) ∧ Tm 94 w.heap.size w' b g cap (newE n) ∧ Below w.heap.size w w')
set_option maxHeartbeats 2000000 in
set_option maxRecDepth 8000 in
theorem rtnew_any (w : World) (x : Int) : Calls Try.prog 15 #[.int .i64 x] w (RPost x w) := by
  by_cases h1 : x < 1
  · go_enter Try.func15, Try.ntmps15
    go_wp2
    go_ret2
    exact .inl ⟨by omega, rfl, rfl⟩
  by_cases h2 : 8 < x
  · go_enter Try.func15, Try.ntmps15
    go_wp2
    go_ret2
    exact .inl ⟨by omega, rfl, rfl⟩
  obtain ⟨n, rfl⟩ : ∃ n : Nat, x = (n : Int) := ⟨x.toNat, by omega⟩
  have hn1 : 1 ≤ n := by omega
  have hn8 : n ≤ 8 := by omega
  have t1 : decide ((n : Int) < 1) = false := decide_eq_false h1
  have t2 : decide ((8 : Int) < (n : Int)) = false := decide_eq_false h2
  have t1n : decide (n < 1) = false := decide_eq_false (by omega)
  have t2n : decide (8 < n) = false := decide_eq_false (by omega)
  clear h1 h2
  obtain ⟨i0, hi0, hz0, hz1, hz2⟩ := info_parts Try.infoDk
  have HB0 := hide (below_alloc w (.cells #[.slice none 0 0] 94))
  have HE0 : Hid ((w.alloc (.cells #[.slice none 0 0] 94)).heap[w.heap.size]? = some (.cells #[.slice none 0 0] 94 (0, 0))) := hide (heap_alloc_new w _)
  go_enter Try.func15, Try.ntmps15
  go_wp2_with fail
  obtain ⟨X, hX⟩ : ∃ X, w.heap.size = X := ⟨_, rfl⟩
  have HX := hide hX
  rw [hX] at HE0
  try rw [hX]
  clear hX
  generalize w.alloc (.cells #[.slice none 0 0] 94) = W at *
  go_loopw [5] (fun t wr => ∃ (i : Nat) (v : Value), i ≤ n ∧ t = .int .i64 (i : Int) ∧ Hid (wr.heap[X]? = some (.cells #[v] 94 (0, 0))) ∧ Hid (wr.ownsRow w.heap.size 96 5 v (newE i).length (dks (newE i))) ∧ Hid (Below w.heap.size w wr)) (fun t _ => n - (intOf t).toNat)
  case atStart => exact ⟨0, _, Nat.zero_le _, rfl, HE0, hide (show W.ownsRow w.heap.size 96 5 (.slice none 0 0) 0 [] from World.ownsRow_nil _ _ _ _), HB0⟩
  case round =>
    clear HE0 HB0
    obtain ⟨i, v, hi, rfl, HE, HO, HB⟩ := hrel
    obtain ⟨ad3, cap3, rfl⟩ := own_slice HO.out
    have hxl := lt_of_block HE.out
    by_cases hid : i < n
    · have hii : (i : Int) < (n : Int) := by omega
      have c0 : wr.cell? ⟨X, 0, none⟩ = some (.slice ad3 (newE i).length cap3) := by have := HE.out; simp [World.cell?, this]
      have HNEW : Hid ((wr.alloc (.cells #[.int .i64 (i : Int), .int .i64 0, .int .i64 0, .int .i64 0, .string ⟨#[]⟩] 96)).heap[wr.heap.size]? = some (.cells #[.int .i64 (i : Int), .int .i64 0, .int .i64 0, .int .i64 0, .string ⟨#[]⟩] 96 (0, 0))) := hide (heap_alloc_new _ _)
      have hl := newE_len i
      have HS := hide (newE_succ i)
      generalize newE i = L at *
      have hlh := hide hl
      have hl8 : L.length ≤ 8 := by omega
      clear hl
      go_upto_region 8 with (at_builtin; refine wpList_append_own _ rfl _ _ 90 rfl w.heap.size 96 i0 (.agg #[.int .i64 0, .int .i64 0, .int .i64 0, .int .i64 0, .string ByteArray.empty]) 5 48 Try.underlying90 hi0 hz0 hz1 hz2 rfl (by decide) (.slice ad3 L.length cap3) L.length (dks L) rfl (HO.out.alloc _) ⟨wr.heap.size, 0, none⟩ 1 1 (dks [⟨(i : Int), 0, 0, 0, ⟨#[]⟩⟩]) rfl rfl (World.news_of_block (cs := #[.int .i64 (i : Int), .int .i64 0, .int .i64 0, .int .i64 0, .string ⟨#[]⟩]) (t := 96) (fr := (0, 0)) HNEW.out) (dks_one ⟨(i : Int), 0, 0, 0, ⟨#[]⟩⟩) (by unfold maxLen; omega) (by omega) (by rw [World.size_alloc]; have := HB.out.size; omega) ?_; intro v4 w4 hown hgrow hnil; obtain ⟨ad5, cap5, rfl⟩ := own_slice hown; have hx4 : w4.heap[X]? = some (.cells #[.slice ad3 L.length cap3] 94 (0, 0)) := (hgrow.block X (by rw [World.size_alloc]; omega) (fun e => by obtain ⟨cs, hcs⟩ := own_blk HO.out e.symm; exact blk_ne hcs HE.out (by decide) rfl)).trans ((Below.heap_alloc _ _ _ hxl).trans HE.out); have cx4 : w4.cell? ⟨X, 0, none⟩ = some (.slice ad3 L.length cap3) := (by simp [World.cell?, hx4]); have zx4 : w4.frozen? ⟨X, 0, none⟩ = false := (by simp [World.frozen?, hx4]))
      have hBg : Below w.heap.size w w4 := below_grown (HB.out.alloc HB.out.size _) hgrow (by rw [World.size_alloc]; have := HB.out.size; omega) (fun k hk => (HO.out.lt k hk).1)
      have hxk : ∀ k, (Value.slice ad5 (L.length + 1) cap5).ownBlock = some k → k ≠ X := fun k hk e => by
        obtain ⟨cs, hcs⟩ := own_blk hown hk
        exact blk_ne hcs hx4 (by decide) e
      refine ⟨⟨i + 1, .slice ad5 (L.length + 1) cap5, by omega, by go_num, hide (heap_set_self w4 X 0 _ _ _ _ hx4), hide ?_, hide (hBg.trans (((On.refl X w4).set 0 _).below (by rw [HX.out]; exact Nat.le_refl _) hBg.size))⟩, by simp only [intOf]; omega⟩
      rw [HS.out, List.length_append, dks_append]
      exact own_keep hown fun k hk => Below.heap_setCell _ _ _ k (hxk k hk)
    · have hii : ¬ (i : Int) < (n : Int) := by omega
      have he : i = n := by omega
      subst he
      clear hii
      go_wp2_with fail
      go_ret2
      rw [newE_len] at HO
      obtain ⟨g1, cap1, hv⟩ := two_own HO.out (by omega)
      injection hv with hv _ hc
      subst hv
      exact .inr ⟨i, X, g1, cap3, rfl, hn1, hn8, rfl, ⟨by rw [newE_len] at HE ⊢; exact HE.out, by rw [newE_len]; exact HO.out, by rw [HX.out]; exact Nat.le_refl _, by rw [newE_len]; exact hn8⟩, HB.out⟩
end Go.Proofs.Ytaikogbeaohmhaa
