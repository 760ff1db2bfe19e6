import Derived.Test.YtpgehocadohkiaaGreatDoorMgAX

section
namespace Go.Proofs.YtpgehocadohkiaaGreatDoor
open Go.RowKit Go.Shelf

namespace Pg
def fts (x : In) (l : List UInt8) : List (List UInt8) := l.map fun c => (fieldT c.toNat (get x c.toNat)).data.toList
end Pg
theorem goT_list (x : In) : ∀ (l : List UInt8) (acc : ByteArray), (Pg.goT x l acc).data.toList = acc.data.toList ++ (Pg.fts x l).flatMap (fun u => 32 :: u)
  | [], acc => by unfold Pg.goT Pg.fts; simp
  | c :: r, acc => by
    unfold Pg.goT
    rw [goT_list x r, ByteArray.data_append, Array.toList_append, ByteArray.data_append, Array.toList_append]
    unfold Pg.fts
    rw [List.map_cons, List.flatMap_cons, List.append_assoc]
    rfl
theorem named_word : ∀ n : Fin 24, (Pg.named (Pg.shape ((n.val + 1 : Nat) : Int)).1.word).2 = true ∧ (Pg.named (Pg.shape ((n.val + 1 : Nat) : Int)).1.word).1.op = ((n.val + 1 : Nat) : Int) ∧ (Pg.named (Pg.shape ((n.val + 1 : Nat) : Int)).1.word).1.flds.data.toList = (Pg.shape ((n.val + 1 : Nat) : Int)).1.flds.data.toList ∧ (32 : UInt8) ∉ (Pg.shape ((n.val + 1 : Nat) : Int)).1.word.data.toList ∧ (10 : UInt8) ∉ (Pg.shape ((n.val + 1 : Nat) : Int)).1.word.data.toList := by decide +kernel
theorem k_can {x : In} (hx : x.Fits) {many : Nat} (hm : many ≤ 64) (h : Pg.insE x many = 0) (hk : (Pg.hasP x.op).2.2 = true) : Gn.canonW x.k = x.k := by
  rw [insE_ref x hx many hm] at h
  by_cases hw : (Pg.wordP x.op).toList = []
  · rw [if_pos hw] at h; cases h
  rw [if_neg hw] at h
  obtain ⟨_, _, _, _, h5⟩ := wrong_zero h
  unfold Pg.kE at h5
  rw [hk, if_pos rfl] at h5
  by_cases hv : Gn.canonW x.k = x.k
  · exact hv
  · rw [if_pos hv] at h5; cases h5
theorem fl_k {hp : Nat × Bool × Bool} (h : (75 : UInt8) ∈ Pg.fl hp) : hp.2.2 = true := by
  obtain ⟨r, nb, kb⟩ := hp
  unfold Pg.fl at h
  rcases List.mem_append.1 h with h | h
  · have := List.mem_of_mem_take h
    simp at this
  · cases kb with
    | true => rfl
    | false => cases nb <;> simp at h
theorem field_there {x : In} (hx : x.Fits) {many : Nat} (hm : many ≤ 64) (h : Pg.insE x many = 0) (c : UInt8) (hc : c ∈ Pg.fl (Pg.hasP x.op)) : Pg.fieldP c.toNat (Pg.fieldT c.toNat (Pg.get x c.toNat)) = (Pg.get x c.toNat, true) := by
  have hok := ins_ok hx hm h
  have ea := un_id hok.a.1 (by have := hok.a; omega)
  have eb := un_id hok.b.1 (by have := hok.b; omega)
  have ec := un_id hok.c.1 (by have := hok.c; omega)
  have en := un_id hok.n.1 (by have := hok.n; omega)
  rcases fl_mem hc with rfl | rfl | rfl | rfl | rfl
  · exact reg_there (v := Pg.un x.a) (by have := hok.a; omega)
  · exact reg_there (v := Pg.un x.b) (by have := hok.b; omega)
  · exact reg_there (v := Pg.un x.c) (by have := hok.c; omega)
  · exact num_there (v := Pg.un x.n) (by have := hok.n; omega)
  · show ((parseP (textB x.k)).1, (parseP (textB x.k)).2 == 0) = (x.k, true)
    rw [parse_there x.k hx.k, k_can hx hm h (fl_k hc)]
    rfl
theorem goP_at {x : In} (W : List ByteArray) : ∀ (l : List UInt8) (i : Nat) (y : In), (∀ c ∈ l, Pg.fieldP c.toNat (Pg.fieldT c.toNat (Pg.get x c.toNat)) = (Pg.get x c.toNat, true)) → W.drop (1 + i) = (Pg.fts x l).map Pg.mk → Pg.goP W l i y = (Pg.sets x l y, true)
  | [], _, _, _, _ => rfl
  | c :: r, i, y, hf, hd => by
    have hd' : W.drop (1 + i) = Pg.fieldT c.toNat (Pg.get x c.toNat) :: (Pg.fts x r).map Pg.mk := hd
    have h1 : W[1 + i]! = Pg.fieldT c.toNat (Pg.get x c.toNat) := by
      have h2 : W[1 + i]? = some (Pg.fieldT c.toNat (Pg.get x c.toNat)) := by
        have := congrArg (fun l => l[0]?) hd'
        simp only [List.getElem?_drop, Nat.add_zero] at this
        exact this
      rw [List.getElem!_eq_getElem?_getD, h2]; rfl
    have h3 : W.drop (1 + (i + 1)) = (Pg.fts x r).map Pg.mk := by
      rw [show 1 + (i + 1) = 1 + i + 1 by omega, ← List.drop_drop, hd']
      rfl
    unfold Pg.goP
    rw [h1, hf c (by simp), if_neg (by simp)]
    exact goP_at W r (i + 1) _ (fun d hd => hf d (by simp [hd])) h3
theorem ins_text {x : In} (hx : x.Fits) {many : Nat} (hm : many ≤ 64) (h : Pg.insE x many = 0) : Pg.insP (Pg.insT x) = (x, true) ∧ 10 ∉ (Pg.insT x).data.toList := by
  have hok := ins_ok hx hm h
  obtain ⟨hf, _, h3⟩ := ins_fl x many h
  obtain ⟨n, hn⟩ := ins_op x many h
  obtain ⟨n1, n2, n3, n4, n5⟩ := named_word n
  rw [← hn] at n1 n2 n3 n4 n5
  have hT : (Pg.insT x).data.toList = (Pg.shape x.op).1.word.data.toList ++ (Pg.fts x (Pg.fl (Pg.hasP x.op))).flatMap (fun u => 32 :: u) := by unfold Pg.insT; rw [goT_list, hf]
  have hpure : ∀ u ∈ Pg.fts x (Pg.fl (Pg.hasP x.op)), Pg.Pure u := fun u hu => by
    unfold Pg.fts at hu
    obtain ⟨c, _, rfl⟩ := List.mem_map.1 hu
    exact pure_field _ _
  have hlen : (Pg.fl (Pg.hasP x.op)).length ≤ 3 := by
    have := (Pg.shape_ok x.op).1
    rw [← hf, Array.length_toList]
    exact this
  have hS : Pg.splitW 4 (Pg.insT x) = (Pg.shape x.op).1.word :: (Pg.fts x (Pg.fl (Pg.hasP x.op))).map Pg.mk := by
    rw [← mk_self (Pg.insT x), hT, split_join _ _ 4 n4 (fun u hu => (hpure u hu).1) (by unfold Pg.fts; rw [List.length_map]; omega)]
    rfl
  have hz : (Pg.named (Pg.shape x.op).1.word).1.flds.size = (Pg.fl (Pg.hasP x.op)).length := by
    rw [← hf, ← n3, Array.length_toList]; rfl
  refine ⟨?_, ?_⟩
  · unfold Pg.insP
    have h0 : ((Pg.shape x.op).1.word :: (Pg.fts x (Pg.fl (Pg.hasP x.op))).map Pg.mk)[0]! = (Pg.shape x.op).1.word := rfl
    rw [hS, h0]
    rw [if_neg (by
      rintro (k | k)
      · rw [n1] at k; cases k
      · apply k
        rw [hz, List.length_cons, List.length_map]
        unfold Pg.fts
        rw [List.length_map, Nat.add_comm])]
    rw [n2, n3, hf, goP_at (x := x) _ _ 0 _ (fun c hc => field_there hx hm h c hc) rfl, sets_ok hm hok h3]
  · rw [hT]
    intro hm2
    rcases List.mem_append.1 hm2 with k | k
    · exact n5 k
    · obtain ⟨u, hu, hk⟩ := List.mem_flatMap.1 k
      rcases List.mem_cons.1 hk with k2 | k2
      · cases k2
      · exact (hpure u hu).2 k2
end Go.Proofs.YtpgehocadohkiaaGreatDoor
end

section
namespace Go.Proofs.YtpgehocadohkiaaGreatDoor
open Go.RowKit Go.Shelf

theorem suf_ten (l : List UInt8) : Lib.hasSuffix (l ++ [10]) [10] = true := by unfold Lib.hasSuffix; simp
theorem cut_ten (l : List UInt8) : Pg.cutN (Pg.mk (l ++ [10])) = Pg.mk l := by
  unfold Pg.cutN Lib.trimSuffix
  rw [mk_data, if_pos (suf_ten l)]
  show Pg.mk ((l ++ [10]).take ((l ++ [10]).length - 1)) = _
  rw [List.length_append, show ([10] : List UInt8).length = 1 from rfl, Nat.add_sub_cancel, List.take_left]
theorem line_ins {x : In} (hx : x.Fits) {many : Nat} (hm : many ≤ 64) (h : Pg.insE x many = 0) (k : Nat) (hk : k ≠ 1) (f : Int) (xs : List In) (hl : xs.length ≤ 64) : Pg.lineP k (Pg.mk ((Pg.insT x).data.toList ++ [10])) f xs = ((f, xs ++ [x]), true) := by
  unfold Pg.lineP
  rw [mk_data, if_neg (by rw [suf_ten]; simp), if_neg hk, cut_ten, mk_self, (ins_text hx hm h).1]
  unfold Pg.addP
  rw [if_pos ⟨rfl, hl⟩]
theorem line_fuel {n : Nat} (h : n ≤ 1024) (f : Int) (xs : List In) : Pg.lineP 1 (Pg.mk (([102, 117, 101, 108, 32] ++ Lib.decDigits n) ++ [10])) f xs = (((n : Int), xs), true) := by
  unfold Pg.lineP
  have hp : Lib.hasPrefix ([102, 117, 101, 108, 32] ++ Lib.decDigits n) [102, 117, 101, 108, 32] = true := by unfold Lib.hasPrefix; simp [List.isPrefixOf]
  have hc : Pg.cutF (Pg.mk ([102, 117, 101, 108, 32] ++ Lib.decDigits n)) = ⟨(Lib.decDigits n).toArray⟩ := by
    unfold Pg.cutF Lib.trimPrefix
    rw [mk_data, if_pos hp]
    rfl
  rw [mk_data, if_neg (by rw [suf_ten]; simp), if_pos rfl, cut_ten]
  unfold Pg.fuelP
  rw [mk_data, if_pos hp, hc, num_there h]
theorem allT_flat : ∀ (xs : List In) (acc : List UInt8), Pg.allT xs acc = acc ++ (xs.map fun x => (Pg.insT x).data.toList).flatMap (fun u => u ++ [10])
  | [], acc => by unfold Pg.allT; simp
  | x :: r, acc => by
    unfold Pg.allT
    rw [allT_flat r, List.map_cons, List.flatMap_cons, List.append_assoc, ByteArray.data_append, Array.toList_append]
/-- the text of a program that may be is read as what it was -/
theorem parse_print {fuel : Int} {xs : List In} (hx : ∀ x ∈ xs, x.Fits) (h : (Pg.checkE fuel xs).1 = 0) : Pg.parseS (Pg.printS fuel xs) = ((fuel, xs), (0, 0)) := by
  obtain ⟨hf1, hf2, hn1, hn2⟩ := checkE_two fuel xs h
  have hi := check_ins fuel xs h
  obtain ⟨n, hn⟩ : ∃ n : Nat, fuel = (n : Int) := ⟨fuel.toNat, by omega⟩
  have hF : (Pg.fuelT fuel).data.toList = ([102, 117, 101, 108, 32] ++ Lib.decDigits n) ++ [10] := by
    unfold Pg.fuelT
    rw [hn, Lib.itoa_nonneg, ByteArray.data_append, Array.toList_append, ByteArray.data_append, Array.toList_append]
  have hfu : (10 : UInt8) ∉ [102, 117, 101, 108, 32] ++ Lib.decDigits n := fun k => (List.mem_append.1 k).elim (by decide) (pure_dec n).2
  have e : Pg.printS fuel xs = Pg.mk (([102, 117, 101, 108, 32] ++ Lib.decDigits n) ++ 10 :: (xs.map fun x => (Pg.insT x).data.toList).flatMap (fun u => u ++ [10])) := by
    unfold Pg.printS Pg.printT
    rw [if_pos h, allT_flat, hF, List.append_assoc]
    rfl
  have hL : Pg.linesP (Pg.printS fuel xs) = Pg.mk (([102, 117, 101, 108, 32] ++ Lib.decDigits n) ++ [10]) :: (xs.map fun x => (Pg.insT x).data.toList).map (fun u => Pg.mk (u ++ [10])) := by
    rw [e]
    refine linesP_join _ _ hfu (fun u hu => ?_)
    obtain ⟨x, hm, rfl⟩ := List.mem_map.1 hu
    exact (ins_text (hx x hm) hn2 (hi x hm)).2
  unfold Pg.parseS
  generalize Pg.linesP (Pg.printS fuel xs) = LS at *
  have hlen : LS.length = xs.length + 1 := by rw [hL]; simp
  have hat : ∀ k, k < xs.length → LS[k + 1]! = Pg.mk ((Pg.insT xs[k]!).data.toList ++ [10]) := fun k hk => by
    have h2 : LS[k + 1]? = some (Pg.mk ((Pg.insT xs[k]!).data.toList ++ [10])) := by
      rw [hL, List.getElem?_cons_succ, List.getElem?_map, List.getElem?_map, List.getElem?_eq_getElem hk, getElem!_pos xs k hk]
      rfl
    rw [List.getElem!_eq_getElem?_getD, h2]; rfl
  have hat0 : LS[0]! = Pg.mk (([102, 117, 101, 108, 32] ++ Lib.decDigits n) ++ [10]) := by rw [hL]; rfl
  have hline : ∀ k, k < xs.length → ∀ f ys, ys.length ≤ 64 → Pg.lineP (k + 1 + 1) LS[k + 1]! f ys = ((f, ys ++ [xs[k]!]), true) := fun k hk f ys hy => by
    have hm : xs[k]! ∈ xs := by rw [getElem!_pos xs k hk]; exact List.getElem_mem hk
    rw [hat k hk]
    exact line_ins (hx _ hm) hn2 (hi _ hm) _ (by omega) f ys hy
  have hst : ∀ k, k ≤ xs.length → Pg.stP LS (k + 1) = (fuel, xs.take k) := by
    intro k
    induction k with
    | zero =>
      intro _
      show (Pg.lineP 1 LS[0]! 0 []).1 = _
      rw [hat0, line_fuel (by omega), hn]
      rfl
    | succ m ih =>
      intro hm
      show (Pg.lineP (m + 1 + 1) LS[m + 1]! (Pg.stP LS (m + 1)).1 (Pg.stP LS (m + 1)).2).1 = _
      rw [ih (by omega), hline m (by omega) _ _ (by rw [List.length_take]; omega)]
      show (fuel, xs.take m ++ [xs[m]!]) = _
      rw [getElem!_pos xs m (by omega), List.take_append_getElem]
  have hall : ∀ k, k < LS.length → Pg.okP LS k = true := by
    intro k hk
    unfold Pg.okP
    cases k with
    | zero =>
      show (Pg.lineP 1 LS[0]! 0 []).2 = true
      rw [hat0, line_fuel (by omega)]
    | succ m =>
      rw [hst m (by omega), hline m (by omega) _ _ (by rw [List.length_take]; omega)]
  have hfind : (List.range LS.length).find? (fun k => !Pg.okP LS k) = none := by
    rw [List.find?_eq_none]
    intro k hk
    simp [hall k (List.mem_range.1 hk)]
  have hend : Pg.stP LS LS.length = (fuel, xs) := by rw [hlen, hst xs.length (Nat.le_refl _), List.take_length]
  simp only [hfind, hend]
  rw [if_neg (by simp [h])]
end Go.Proofs.YtpgehocadohkiaaGreatDoor
end

section
namespace Go.Proofs.YtpgehocadohkiaaGreatDoor
open Go.RowKit Go.Shelf

theorem text_len : ∀ (xs : List In), (∀ x ∈ xs, x.Fits) → ((xs.map fun x => (Pg.insT x).data.toList).flatMap (fun u => u ++ [10])).length ≤ 312 * xs.length
  | [], _ => Nat.zero_le _
  | x :: r, h => by
    have h1 := text_len r (fun y hy => h y (by simp [hy]))
    have h2 := Pg.insT_len x (h x (by simp)).k
    have h3 : (Pg.insT x).data.toList.length = (Pg.insT x).size := by rw [Array.length_toList]; rfl
    have e : ([10] : List UInt8).length = 1 := rfl
    have e2 : (x :: r).length = r.length + 1 := rfl
    rw [List.map_cons, List.flatMap_cons, List.length_append, List.length_append, h3, e, e2]
    omega
theorem print_len {fuel : Int} {xs : List In} (hx : ∀ x ∈ xs, x.Fits) (h : (Pg.checkE fuel xs).1 = 0) : (Pg.printS fuel xs).size ≤ 100000 := by
  obtain ⟨hf1, hf2, hn1, hn2⟩ := checkE_two fuel xs h
  unfold Pg.printS Pg.printT
  rw [if_pos h, allT_flat]
  show (_ : List UInt8).toArray.size ≤ _
  rw [List.size_toArray, List.length_append]
  have h1 := text_len xs hx
  obtain ⟨n, hn⟩ : ∃ n : Nat, fuel = (n : Int) := ⟨fuel.toNat, by omega⟩
  have h2 : (Lib.itoa fuel).length ≤ 4 := by rw [hn, Lib.itoa_nonneg]; exact dec_short (by omega)
  have h3 : (Pg.fuelT fuel).data.toList.length = 5 + (Lib.itoa fuel).length + 1 := by
    unfold Pg.fuelT
    rw [ByteArray.data_append, Array.toList_append, ByteArray.data_append, Array.toList_append, List.length_append, List.length_append]
    rfl
  omega
theorem parse_bk {fuel : Int} {xs : List In} (hx : ∀ x ∈ xs, x.Fits) (h : (Pg.checkE fuel xs).1 = 0) (w : World) (hT : Libs w) : Calls Tryz.prog 8 #[.string (Pg.printS fuel xs)] w fun e w' => ∃ v, e = .returned (.tuple #[.agg #[.int .i64 fuel, v], .int .i64 0, .int .i64 0]) ∧ Cd w' v xs ∧ Below w.heap.size w w' := by
  have := parseText_any (Pg.printS fuel xs) (by have := print_len hx h; omega) w hT
  rw [parse_print hx h] at this
  exact this.mono fun e w' ⟨v, h1, h2, h3⟩ => ⟨v, h1, own_cd h2, h3⟩
theorem unpack_bk {fuel : Int} {xs : List In} (hx : ∀ x ∈ xs, x.Fits) (h : (Pg.checkE fuel xs).1 = 0) (w : World) : Calls Tryz.prog 12 #[.string (Pg.packS fuel xs)] w fun e w' => ∃ v, e = .returned (.tuple #[.agg #[.int .i64 fuel, v], .int .i64 0]) ∧ Cd w' v xs ∧ Below w.heap.size w w' := by
  have := unpack_any (Pg.packS fuel xs) w
  rw [(unpack_pack hx h).2, show ((fuel.toNat : Nat) : Int) = fuel by have := checkE_two fuel xs h; omega] at this
  exact this.mono fun e w' ⟨v, h1, h2, h3⟩ => ⟨v, h1, own_cd h2, h3⟩
end Go.Proofs.YtpgehocadohkiaaGreatDoor
end
