import Derived.Test.YtmmnjkbdldaniabWrV0
import Derived.Deep.DeepCutAuto
import Derived.Deep.RegionHeld3
namespace Go.Proofs.Ytmmnjkbdldaniab
open Go.RowKit Go.Shelf
open Wr (Ms V L)

theorem one_cell (W : World) (c : UInt8) : ∀ j (hj : j < [c].length), (W.alloc (.cells #[.int .u8 (c.toNat : Int)] 5)).cell? ((⟨W.heap.size, 0, none⟩ : Addr).add j) = some (.int .u8 (([c][j]'hj).toNat : Int)) := by
  intro j hj
  obtain rfl : j = 0 := by simpa using hj
  rw [Addr.add_lit, World.cell?_alloc_at _ _ _ _ rfl]
  rfl
theorem one_str (W : World) (c : UInt8) : (convert 33 9 (.slice (some ⟨W.heap.size, 0, none⟩) 1 1)).run Try.prog (W.alloc (.cells #[.int .u8 (c.toNat : Int)] 5)) = .ok (.string ⟨#[c]⟩) (W.alloc (.cells #[.int .u8 (c.toNat : Int)] 5)) :=
  run_convert_bytes_back _ _ _ _ (⟨W.heap.size, 0, none⟩ : Addr) 1 [c] Try.underlying33 Try.underlying5 Try.underlying9 (one_cell W c)
theorem str_of {W : World} {g : Nat} {c : UInt8} (h : W.cell? ⟨g, 0, none⟩ = some (.int .u8 (c.toNat : Int))) : (convert 33 9 (.slice (some ⟨g, 0, none⟩) 1 1)).run Try.prog W = .ok (.string ⟨#[c]⟩) W :=
  run_convert_bytes_back _ _ _ _ (⟨g, 0, none⟩ : Addr) 1 [c] Try.underlying33 Try.underlying5 Try.underlying9 (by
    intro j hj
    obtain rfl : j = 0 := by simpa using hj
    rw [Addr.add_lit]; exact h)
def spoil (b : ByteArray) (k : Nat) (c : UInt8) : ByteArray := (b.extract 0 k ++ ⟨#[c]⟩) ++ b.extract (k + 1) b.size
theorem spoil_list (b : ByteArray) (k : Nat) (hk : k < b.size) (c : UInt8) : (spoil b k c).data.toList = b.data.toList.take k ++ [c] ++ b.data.toList.drop (k + 1) := by
  have e1 : (b.extract 0 k).data.toList = b.data.toList.take k := by
    have := extract_list b 0 k
    rw [Nat.zero_add] at this
    rw [this]; rfl
  have e2 : (b.extract (k + 1) b.size).data.toList = b.data.toList.drop (k + 1) := by
    have := extract_list b (k + 1) (b.size - (k + 1))
    rw [show k + 1 + (b.size - (k + 1)) = b.size by omega] at this
    rw [this, rest, List.take_of_length_le (by rw [List.length_drop, ← Wr.size_list]; omega)]
  have ha : ∀ x y : ByteArray, (x ++ y).data.toList = x.data.toList ++ y.data.toList := fun x y => by simp
  unfold spoil
  rw [ha, ha, e1, e2]
theorem spoil_size (b : ByteArray) (k : Nat) (hk : k < b.size) (c : UInt8) : (spoil b k c).size = b.size := by
  rw [Wr.size_list, spoil_list b k hk c]
  simp
  omega
theorem spoil_ne (b : ByteArray) (k : Nat) (hk : k < b.size) (c : UInt8) (hc : b[k]'hk ≠ c) : (spoil b k c).data.toList ≠ b.data.toList := by
  intro e
  rw [spoil_list b k hk c] at e
  have hl : k < b.data.toList.length := hk
  have h1 := congrArg (fun l => l[k]?) e
  simp only [List.append_assoc] at h1
  rw [List.getElem?_append_right (by rw [List.length_take]; omega), List.length_take, Nat.min_eq_left (by omega), Nat.sub_self, List.getElem?_eq_getElem hl] at h1
  simp at h1
  exact hc h1.symm
theorem spoil_dec {m : Ms} (hc : Wr.check m = 0) (hb : m.rb < 18446744073709551616) {k : Nat} (hk : k < (encB m).size) {c : UInt8} (hn : (encB m)[k]'hk ≠ c) :
    Wr.decode limP (spoil (encB m) k c) = (Wr.zM 0, 72) ∨ ∃ n, Wr.decode limP (spoil (encB m) k c) = (n, 0) ∧ n ≠ m := by
  have hs := (dec_encB hc hb).2
  rcases Wr.decode_or limP (spoil (encB m) k c) with ⟨h, _⟩ | ⟨_, h | ⟨n, h⟩⟩
  · rw [spoil_size _ _ hk] at h; omega
  · exact .inl h
  · refine .inr ⟨n, h, ?_⟩
    rintro rfl
    obtain ⟨_, _, f3, _⟩ := Wr.decode_form h
    exact spoil_ne _ _ hk c hn (by rw [f3, encB_list hc])
set_option maxRecDepth 8000 in
set_option maxHeartbeats 4000000 in
theorem wireSpoilt_walk (m : Ms) (hrb : m.rb < 18446744073709551616) (at_ : Int) (ha : -9223372036854775808 ≤ at_) (ha' : at_ ≤ 9223372036854775807) (z : Int) (hz0 : 0 ≤ z) (hz1 : z ≤ 255) (w : World) : Calls Try.prog 3 #[.agg (msgC m), .int .i64 at_, .int .u8 z] w fun e w' => e = .returned (.bool true) ∧ Below w.heap.size w w' := by
  obtain ⟨c, rfl⟩ : ∃ c : UInt8, z = (c.toNat : Int) := ⟨UInt8.ofNat z.toNat, by rw [Pk.toNat_ofNat (by omega)]; omega⟩
  have HE := hide (encode_any m hrb)
  have HA := hide awake_any
  have HSt : Hid (Below (w.heap.size + 1) (w.alloc (.cells (msgC m) 26)) (w.alloc (.cells (msgC m) 26))) := Below.refl _ _
  by_cases hc : Wr.check m = 0
  · have hsz := (dec_encB hc hrb).2
    have hall : (decide (at_ < 0) = true) ∨ (decide (at_ < 0) = false ∧ decide (at_ ≥ ((encB m).size : Int)) = true) ∨ (∃ (k : Nat) (hk : k < (encB m).size), at_ = (k : Int) ∧ (encB m)[k]'hk = c) ∨ (∃ (k : Nat) (hk : k < (encB m).size), at_ = (k : Int) ∧ (encB m)[k]'hk ≠ c) := by
      by_cases h0 : at_ < 0
      · exact .inl (decide_eq_true h0)
      · by_cases h1 : at_ ≥ ((encB m).size : Int)
        · exact .inr (.inl ⟨decide_eq_false h0, decide_eq_true h1⟩)
        · have hk : at_.toNat < (encB m).size := by omega
          by_cases h2 : (encB m)[at_.toNat]'hk = c
          · exact .inr (.inr (.inl ⟨at_.toNat, hk, by omega, h2⟩))
          · exact .inr (.inr (.inr ⟨at_.toNat, hk, by omega, h2⟩))
    rw [hc] at HE
    rcases hall with b3 | ⟨b3, b4⟩ | ⟨k, hk, rfl, hx⟩ | ⟨k, hk, rfl, hx⟩
    · generalize encB m = EB at *
      unfold msgC at HE HSt ⊢
      go_enter Try.func3, Try.ntmps3
      go_wp2_with fail
      refine (HE.out _).mono ?_
      rintro e w1 ⟨rfl, hb1⟩
      have H1 := hide (below_in HSt.out hb1)
      clear hb1
      go_wp2_with fail
      refine (HA.out _).mono ?_
      rintro e w2 ⟨rfl, hb2⟩
      have H2 := hide (below_in H1.out hb2)
      clear hb2
      go_wp2
      go_ret
      exact ⟨rfl, b_out H2.out⟩
    · generalize encB m = EB at *
      unfold msgC at HE HSt ⊢
      go_enter Try.func3, Try.ntmps3
      go_wp2_with fail
      refine (HE.out _).mono ?_
      rintro e w1 ⟨rfl, hb1⟩
      have H1 := hide (below_in HSt.out hb1)
      clear hb1
      go_wp2_with fail
      refine (HA.out _).mono ?_
      rintro e w2 ⟨rfl, hb2⟩
      have H2 := hide (below_in H1.out hb2)
      clear hb2
      go_wp2
      go_ret
      exact ⟨rfl, b_out H2.out⟩
    · have b3 : decide ((k : Int) < 0) = false := by simp
      have b4 : decide ((k : Int) ≥ ((encB m).size : Int)) = false := by simp; omega
      have b5 : ((((encB m)[k]'hk).toNat : Int) == (c.toNat : Int)) = true := by rw [hx]; simp
      clear hx
      generalize encB m = EB at *
      unfold msgC at HE HSt ⊢
      go_enter Try.func3, Try.ntmps3
      go_wp2_with fail
      refine (HE.out _).mono ?_
      rintro e w1 ⟨rfl, hb1⟩
      have H1 := hide (below_in HSt.out hb1)
      clear hb1
      go_wp2_with fail
      refine (HA.out _).mono ?_
      rintro e w2 ⟨rfl, hb2⟩
      have H2 := hide (below_in H1.out hb2)
      clear hb2
      go_wp2
      go_ret
      exact ⟨rfl, b_out H2.out⟩
    · have b3 : decide ((k : Int) < 0) = false := by simp
      have b4 : decide ((k : Int) ≥ ((encB m).size : Int)) = false := by simp; omega
      have b5 : ((((encB m)[k]'hk).toNat : Int) == (c.toNat : Int)) = false := by apply beq_false_of_ne; intro e; exact hx (UInt8.toNat_inj.mp (by omega))
      have hd := spoil_dec hc hrb hk hx
      have HDe := hide fun W => decode_any (spoil (encB m) k c) W (by rw [spoil_size _ _ hk]; omega)
      have a1 : ∀ W : World, (Op.stringOp .add ((encB m).extract 0 k) ⟨#[c]⟩).run Try.prog W = .ok (.string ((encB m).extract 0 k ++ ⟨#[c]⟩)) W := fun W => run_string_add_sum W _ _ (by rw [ByteArray.size_extract]; show _ + 1 ≤ _; omega)
      have a2 : ∀ W : World, (Op.stringOp .add ((encB m).extract 0 k ++ ⟨#[c]⟩) ((encB m).extract (k + 1) (encB m).size)).run Try.prog W = .ok (.string (spoil (encB m) k c)) W := fun W => run_string_add_sum W _ _ (by have := spoil_size _ _ hk c; unfold spoil at this; rw [ByteArray.size_append] at this; omega)
      clear hx
      generalize hSP : spoil (encB m) k c = SP at *
      generalize encB m = EB at *
      have hk1 : IntKind.i64.wrap ((k : Int) + 1) = (k : Int) + 1 := by rw [IntKind.wrap_i64]; omega
      clear hSP
      unfold msgC at HE HSt ⊢
      go_enter Try.func3, Try.ntmps3
      go_wp2_with fail
      refine (HE.out _).mono ?_
      rintro e w1 ⟨rfl, hb1⟩
      have H1 := hide (below_in HSt.out hb1)
      clear hb1
      go_wp2_with fail
      refine (HA.out _).mono ?_
      rintro e w2 ⟨rfl, hb2⟩
      have H2 := hide (below_in H1.out hb2)
      clear hb2
      have l1 : (0 : Int) ≤ (k : Int) := by omega
      have l2 : (k : Int) ≤ (EB.size : Int) := by omega
      have l3 : (0 : Int) ≤ (k : Int) + 1 := by omega
      have l4 : (k : Int) + 1 ≤ (EB.size : Int) := by omega
      have s1 : ∀ W : World, (Instr.slice 9 (.string EB) none (some (.int .i64 (k : Int))) none).run Try.prog W = .ok (.string (EB.extract 0 k)) W := fun W => by go_simp
      obtain ⟨n, CODE, hD2, hD3⟩ : ∃ (n : Ms) (CODE : Int), (msgC (Wr.decode limP SP).1 = msgC n ∧ ((Wr.decode limP SP).2 : Int) = CODE) ∧ ((n = Wr.zM 0 ∧ CODE = 72) ∨ (CODE = 0 ∧ n ≠ m)) := by
        rcases hd with hd | ⟨n, hd, hnm⟩
        · exact ⟨Wr.zM 0, 72, ⟨by rw [hd], by rw [hd]; rfl⟩, .inl ⟨rfl, rfl⟩⟩
        · exact ⟨n, 0, ⟨by rw [hd], by rw [hd]; rfl⟩, .inr ⟨rfl, hnm⟩⟩
      rw [hD2.1, hD2.2] at HDe
      unfold msgC at HDe
      have HD3 := hide hD3
      clear hD2 hD3 hd
      go_upto_region 6 with fail
      go_cut [9, 10] (fun u9 u10 wc => ∃ N : Nat, u9 = .pointer (some ⟨N, 0, none⟩) ∧ u10 = .int .i64 CODE ∧ Hid (Mg wc N n) ∧ Hid (Below (w.heap.size + 1) (w.alloc (.cells #[.int .i64 m.k, .int .i64 m.se, .int .i64 m.nu, .int .i64 m.jo, .int .i64 m.ba, .int .i64 m.ix, .int .i64 m.co, .int .i64 m.rc, .int .u64 (m.rb : Int), .string m.tx, .string m.pr] 26)) wc))
      case first =>
        refine wp_region_held_drew (S := fun _ => True) (by kernel_rfl) trivial (fun hHeld => ?_)
        have HW0 : Hid (Below (w.heap.size + 1) (w.alloc (.cells #[.int .i64 m.k, .int .i64 m.se, .int .i64 m.nu, .int .i64 m.jo, .int .i64 m.ba, .int .i64 m.ix, .int .i64 m.co, .int .i64 m.rc, .int .u64 (m.rb : Int), .string m.tx, .string m.pr] 26)) w2.drew) := ⟨H2.out.os, H2.out.tape, H2.out.output, H2.out.size, H2.out.block⟩
        generalize w2.drew = W0 at *
        refine wpAnyH_take (i := 0) (v := .string EB) rfl (by kernel_rfl) (by kernel_rfl) (by kernel_rfl) (fun _ _ _ h => h) (Or.inl ⟨by kernel_rfl, fun w1 _ => by clear hHeld; go_simp⟩) trivial ?_
        try simp only [Act.put]
        try simp only [List.getElem_toArray]
        try simp only [List.getElem_cons_succ]
        try simp only [List.getElem_cons_zero]
        try simp only [List.setIfInBounds_toArray]
        try simp only [List.set_cons_succ, List.set_cons_zero]
        refine wpAnyH_take (i := 1) (v := .int .i64 (k : Int)) rfl (by kernel_rfl) (by kernel_rfl) (by kernel_rfl) (fun _ _ _ h => h) (Or.inl ⟨by kernel_rfl, fun w1 _ => by clear hHeld; go_simp⟩) trivial ?_
        try simp only [Act.put]
        try simp only [List.getElem_toArray]
        try simp only [List.getElem_cons_succ]
        try simp only [List.getElem_cons_zero]
        try simp only [List.setIfInBounds_toArray]
        try simp only [List.set_cons_succ, List.set_cons_zero]
        refine wpAnyH_take (i := 2) (v := .string (EB.extract 0 k)) rfl (by kernel_rfl) (by kernel_rfl) (by kernel_rfl) (fun _ _ _ h => h) (Or.inl ⟨by kernel_rfl, fun w1 _ => by clear hHeld; go_simp⟩) trivial ?_
        try simp only [Act.put]
        try simp only [List.getElem_toArray]
        try simp only [List.getElem_cons_succ]
        try simp only [List.getElem_cons_zero]
        try simp only [List.setIfInBounds_toArray]
        try simp only [List.set_cons_succ, List.set_cons_zero]
        refine wpAnyH_take (i := 3) (v := .int .u8 (c.toNat : Int)) rfl (by kernel_rfl) (by kernel_rfl) (by kernel_rfl) (fun _ _ _ h => h) (Or.inl ⟨by kernel_rfl, fun w1 _ => by clear hHeld; go_simp⟩) trivial ?_
        try simp only [Act.put]
        try simp only [List.getElem_toArray]
        try simp only [List.getElem_cons_succ]
        try simp only [List.getElem_cons_zero]
        try simp only [List.setIfInBounds_toArray]
        try simp only [List.set_cons_succ, List.set_cons_zero]
        refine wpAnyH_take (i := 7) (v := .string EB) rfl (by kernel_rfl) (by kernel_rfl) (by kernel_rfl) (fun _ _ _ h => h) (Or.inl ⟨by kernel_rfl, fun w1 _ => by clear hHeld; go_simp⟩) trivial ?_
        try simp only [Act.put]
        try simp only [List.getElem_toArray]
        try simp only [List.getElem_cons_succ]
        try simp only [List.getElem_cons_zero]
        try simp only [List.setIfInBounds_toArray]
        try simp only [List.set_cons_succ, List.set_cons_zero]
        refine wpAnyH_take (i := 8) (v := .int .i64 (k : Int)) rfl (by kernel_rfl) (by kernel_rfl) (by kernel_rfl) (fun _ _ _ h => h) (Or.inl ⟨by kernel_rfl, fun w1 _ => by clear hHeld; go_simp⟩) trivial ?_
        try simp only [Act.put]
        try simp only [List.getElem_toArray]
        try simp only [List.getElem_cons_succ]
        try simp only [List.getElem_cons_zero]
        try simp only [List.setIfInBounds_toArray]
        try simp only [List.set_cons_succ, List.set_cons_zero]
        refine wpAnyH_take (i := 9) (v := .int .i64 ((k : Int) + 1)) rfl (by kernel_rfl) (by kernel_rfl) (by kernel_rfl) (fun _ _ _ h => h) (Or.inl ⟨by kernel_rfl, fun w1 _ => by clear hHeld; go_simp⟩) trivial ?_
        try simp only [Act.put]
        try simp only [List.getElem_toArray]
        try simp only [List.getElem_cons_succ]
        try simp only [List.getElem_cons_zero]
        try simp only [List.setIfInBounds_toArray]
        try simp only [List.set_cons_succ, List.set_cons_zero]
        refine wpAnyH_take (i := 10) (v := .string (EB.extract (k + 1) EB.size)) rfl (by kernel_rfl) (by kernel_rfl) (by kernel_rfl) (fun _ _ _ h => h) (Or.inl ⟨by kernel_rfl, fun w1 _ => by clear hHeld; go_simp⟩) trivial ?_
        try simp only [Act.put]
        try simp only [List.getElem_toArray]
        try simp only [List.getElem_cons_succ]
        try simp only [List.getElem_cons_zero]
        try simp only [List.setIfInBounds_toArray]
        try simp only [List.set_cons_succ, List.set_cons_zero]
        refine wpAnyH_ready (rs := [4, 16]) (by kernel_rfl) (by simp) ?_
        refine (AllReadyH.cons rfl (fun K hK => ?_) (AllReadyH.cons rfl (fun K hK => ?_) AllReadyH.nil))
        · go_simp
          refine hK.out _ _ trivial (fun hHeld => ?_)
          clear hK
          have HV1 := hide (below_in HW0.out (below_alloc W0 (.cells #[.int .u8 (c.toNat : Int)] 5)))
          have hsV1 : (W0.alloc (.cells #[.int .u8 (c.toNat : Int)] 5)).cell? ⟨W0.heap.size, 0, none⟩ = some (.int .u8 (c.toNat : Int)) := by rw [World.cell?_alloc_at _ _ _ _ rfl]; rfl
          generalize W0.alloc (.cells #[.int .u8 (c.toNat : Int)] 5) = V1 at *
          refine wpAnyH_ready (rs := [5, 16]) (by kernel_rfl) (by simp) ?_
          refine (AllReadyH.cons rfl (fun K hK => ?_) (AllReadyH.cons rfl (fun K hK => ?_) AllReadyH.nil))
          · have hcs := str_of (g := W0.heap.size) hsV1
            go_simp
            refine hK.out _ _ trivial (fun hHeld => ?_)
            clear hK
            refine wpAnyH_take (i := 6) (v := .string (EB.extract 0 k ++ ⟨#[c]⟩)) rfl (by kernel_rfl) (by kernel_rfl) (by kernel_rfl) (fun _ _ _ h => h) (Or.inl ⟨by kernel_rfl, fun w1 _ => by clear hHeld; go_simp⟩) trivial ?_
            try simp only [Act.put]
            try simp only [List.getElem_toArray]
            try simp only [List.getElem_cons_succ]
            try simp only [List.getElem_cons_zero]
            try simp only [List.setIfInBounds_toArray]
            try simp only [List.set_cons_succ, List.set_cons_zero]
            refine wpAnyH_take (i := 11) (v := .string SP) rfl (by kernel_rfl) (by kernel_rfl) (by kernel_rfl) (fun _ _ _ h => h) (Or.inl ⟨by kernel_rfl, fun w1 _ => by clear hHeld; go_simp⟩) trivial ?_
            try simp only [Act.put]
            try simp only [List.getElem_toArray]
            try simp only [List.getElem_cons_succ]
            try simp only [List.getElem_cons_zero]
            try simp only [List.setIfInBounds_toArray]
            try simp only [List.set_cons_succ, List.set_cons_zero]
            refine wpAnyH_ready (rs := [12, 16]) (by kernel_rfl) (by simp) ?_
            refine (AllReadyH.cons rfl (fun K hK => ?_) (AllReadyH.cons rfl (fun K hK => ?_) AllReadyH.nil))
            · go_simp
              refine (HDe.out _).mono ?_
              rintro e V2 ⟨rfl, hb5⟩
              have HV2 := hide (below_in HV1.out hb5)
              clear hb5
              refine hK.out _ _ trivial (fun hHeld => ?_)
              clear hK
              refine wpAnyH_take (i := 13) (v := .tuple #[.agg #[.int .i64 n.k, .int .i64 n.se, .int .i64 n.nu, .int .i64 n.jo, .int .i64 n.ba, .int .i64 n.ix, .int .i64 n.co, .int .i64 n.rc, .int .u64 (n.rb : Int), .string n.tx, .string n.pr], .int .i64 CODE]) rfl (by kernel_rfl) (by kernel_rfl) (by kernel_rfl) (fun _ _ _ h => h) (Or.inl ⟨by kernel_rfl, fun w1 _ => by clear hHeld; go_simp⟩) trivial ?_
              try simp only [Act.put]
              try simp only [List.getElem_toArray]
              try simp only [List.getElem_cons_succ]
              try simp only [List.getElem_cons_zero]
              try simp only [List.setIfInBounds_toArray]
              try simp only [List.set_cons_succ, List.set_cons_zero]
              refine wpAnyH_take (i := 14) (v := .agg #[.int .i64 n.k, .int .i64 n.se, .int .i64 n.nu, .int .i64 n.jo, .int .i64 n.ba, .int .i64 n.ix, .int .i64 n.co, .int .i64 n.rc, .int .u64 (n.rb : Int), .string n.tx, .string n.pr]) rfl (by kernel_rfl) (by kernel_rfl) (by kernel_rfl) (fun _ _ _ h => h) (Or.inl ⟨by kernel_rfl, fun w1 _ => by clear hHeld; go_simp⟩) trivial ?_
              try simp only [Act.put]
              try simp only [List.getElem_toArray]
              try simp only [List.getElem_cons_succ]
              try simp only [List.getElem_cons_zero]
              try simp only [List.setIfInBounds_toArray]
              try simp only [List.set_cons_succ, List.set_cons_zero]
              refine wpAnyH_take (i := 15) (v := .int .i64 CODE) rfl (by kernel_rfl) (by kernel_rfl) (by kernel_rfl) (fun _ _ _ h => h) (Or.inl ⟨by kernel_rfl, fun w1 _ => by clear hHeld; go_simp⟩) trivial ?_
              try simp only [Act.put]
              try simp only [List.getElem_toArray]
              try simp only [List.getElem_cons_succ]
              try simp only [List.getElem_cons_zero]
              try simp only [List.setIfInBounds_toArray]
              try simp only [List.set_cons_succ, List.set_cons_zero]
              refine wpAnyH_ready (rs := [16]) (by kernel_rfl) (by simp) ?_
              refine (AllReadyH.cons rfl (fun K hK => ?_) AllReadyH.nil)
              · go_simp
                refine hK.out _ _ trivial (fun hHeld => ?_)
                clear hK
                have HV3 := hide (below_in HV2.out (below_alloc V2 (.cells #[.int .i64 0, .int .i64 0, .int .i64 0, .int .i64 0, .int .i64 0, .int .i64 0, .int .i64 0, .int .i64 0, .int .u64 0, .string ⟨#[]⟩, .string ⟨#[]⟩] 26)))
                have HZV3 : Hid (Mg (V2.alloc (.cells #[.int .i64 0, .int .i64 0, .int .i64 0, .int .i64 0, .int .i64 0, .int .i64 0, .int .i64 0, .int .i64 0, .int .u64 0, .string ⟨#[]⟩, .string ⟨#[]⟩] 26)) V2.heap.size (Wr.zM 0)) := heap_alloc_new V2 _
                generalize V2.alloc (.cells #[.int .i64 0, .int .i64 0, .int .i64 0, .int .i64 0, .int .i64 0, .int .i64 0, .int .i64 0, .int .i64 0, .int .u64 0, .string ⟨#[]⟩, .string ⟨#[]⟩] 26) = V3 at *
                have z0 : V3.cell? ⟨V2.heap.size, 0, none⟩ = some (.int .i64 0) := HZV3.out.all 0 _ rfl
                have z1 : V3.cell? ⟨V2.heap.size, 1, none⟩ = some (.int .i64 0) := HZV3.out.all 1 _ rfl
                have z2 : V3.cell? ⟨V2.heap.size, 2, none⟩ = some (.int .i64 0) := HZV3.out.all 2 _ rfl
                have z3 : V3.cell? ⟨V2.heap.size, 3, none⟩ = some (.int .i64 0) := HZV3.out.all 3 _ rfl
                have z4 : V3.cell? ⟨V2.heap.size, 4, none⟩ = some (.int .i64 0) := HZV3.out.all 4 _ rfl
                have z5 : V3.cell? ⟨V2.heap.size, 5, none⟩ = some (.int .i64 0) := HZV3.out.all 5 _ rfl
                have z6 : V3.cell? ⟨V2.heap.size, 6, none⟩ = some (.int .i64 0) := HZV3.out.all 6 _ rfl
                have z7 : V3.cell? ⟨V2.heap.size, 7, none⟩ = some (.int .i64 0) := HZV3.out.all 7 _ rfl
                have z8 : V3.cell? ⟨V2.heap.size, 8, none⟩ = some (.int .u64 0) := HZV3.out.all 8 _ rfl
                have z9 : V3.cell? ⟨V2.heap.size, 9, none⟩ = some (.string ⟨#[]⟩) := HZV3.out.all 9 _ rfl
                have z10 : V3.cell? ⟨V2.heap.size, 10, none⟩ = some (.string ⟨#[]⟩) := HZV3.out.all 10 _ rfl
                have fz := HZV3.out.z
                have hN : w.heap.size + 1 ≤ V2.heap.size := by have := HV2.out.size; simp at this; omega
                refine wpAnyH_ready (rs := [17]) (by kernel_rfl) (by simp) ?_
                refine (AllReadyH.cons rfl (fun K hK => ?_) AllReadyH.nil)
                · go_simp
                  refine hK.out _ _ trivial (fun hHeld => ?_)
                  clear hK
                  refine wpAnyH_take (i := 18) (v := .int .i64 CODE) rfl (by kernel_rfl) (by kernel_rfl) (by kernel_rfl) (fun _ _ _ h => h) (Or.inl ⟨by kernel_rfl, fun w1 _ => by clear hHeld; go_simp⟩) trivial ?_
                  try simp only [Act.put]
                  try simp only [List.getElem_toArray]
                  try simp only [List.getElem_cons_succ]
                  try simp only [List.getElem_cons_zero]
                  try simp only [List.setIfInBounds_toArray]
                  try simp only [List.set_cons_succ, List.set_cons_zero]
                  refine wpAnyH_done (by kernel_rfl) ?_ _
                  have F11 := hide (set11 (w := (w.alloc (.cells #[.int .i64 m.k, .int .i64 m.se, .int .i64 m.nu, .int .i64 m.jo, .int .i64 m.ba, .int .i64 m.ix, .int .i64 m.co, .int .i64 m.rc, .int .u64 (m.rb : Int), .string m.tx, .string m.pr] 26))) HZV3.out (by rw [World.size_alloc]; exact HV3.out) (by rw [World.size_alloc]; exact hN) (.int .i64 n.k) (.int .i64 n.se) (.int .i64 n.nu) (.int .i64 n.jo) (.int .i64 n.ba) (.int .i64 n.ix) (.int .i64 n.co) (.int .i64 n.rc) (.int .u64 (n.rb : Int)) (.string n.tx) (.string n.pr))
                  go_wp2_with fail
                  go_meet
                  case rel => exact ⟨_, rfl, rfl, F11.out.1, by have := F11.out.2; rw [World.size_alloc] at this; exact this⟩
            · go_simp
              refine hK.out _ _ trivial (fun hHeld => ?_)
              clear hK
              have HV4 := hide (below_in HV1.out (below_alloc V1 (.cells #[.int .i64 0, .int .i64 0, .int .i64 0, .int .i64 0, .int .i64 0, .int .i64 0, .int .i64 0, .int .i64 0, .int .u64 0, .string ⟨#[]⟩, .string ⟨#[]⟩] 26)))
              have HZV4 : Hid (Mg (V1.alloc (.cells #[.int .i64 0, .int .i64 0, .int .i64 0, .int .i64 0, .int .i64 0, .int .i64 0, .int .i64 0, .int .i64 0, .int .u64 0, .string ⟨#[]⟩, .string ⟨#[]⟩] 26)) V1.heap.size (Wr.zM 0)) := heap_alloc_new V1 _
              generalize V1.alloc (.cells #[.int .i64 0, .int .i64 0, .int .i64 0, .int .i64 0, .int .i64 0, .int .i64 0, .int .i64 0, .int .i64 0, .int .u64 0, .string ⟨#[]⟩, .string ⟨#[]⟩] 26) = V4 at *
              refine wpAnyH_ready (rs := [12]) (by kernel_rfl) (by simp) ?_
              refine (AllReadyH.cons rfl (fun K hK => ?_) AllReadyH.nil)
              · go_simp
                refine (HDe.out _).mono ?_
                rintro e V5 ⟨rfl, hb5⟩
                have HV5 := hide (below_in HV4.out hb5)
                have HZV5 := hide (HZV4.out.block (hb5.block _ HZV4.out.lt))
                clear hb5
                refine hK.out _ _ trivial (fun hHeld => ?_)
                clear hK
                refine wpAnyH_take (i := 13) (v := .tuple #[.agg #[.int .i64 n.k, .int .i64 n.se, .int .i64 n.nu, .int .i64 n.jo, .int .i64 n.ba, .int .i64 n.ix, .int .i64 n.co, .int .i64 n.rc, .int .u64 (n.rb : Int), .string n.tx, .string n.pr], .int .i64 CODE]) rfl (by kernel_rfl) (by kernel_rfl) (by kernel_rfl) (fun _ _ _ h => h) (Or.inl ⟨by kernel_rfl, fun w1 _ => by clear hHeld; go_simp⟩) trivial ?_
                try simp only [Act.put]
                try simp only [List.getElem_toArray]
                try simp only [List.getElem_cons_succ]
                try simp only [List.getElem_cons_zero]
                try simp only [List.setIfInBounds_toArray]
                try simp only [List.set_cons_succ, List.set_cons_zero]
                refine wpAnyH_take (i := 14) (v := .agg #[.int .i64 n.k, .int .i64 n.se, .int .i64 n.nu, .int .i64 n.jo, .int .i64 n.ba, .int .i64 n.ix, .int .i64 n.co, .int .i64 n.rc, .int .u64 (n.rb : Int), .string n.tx, .string n.pr]) rfl (by kernel_rfl) (by kernel_rfl) (by kernel_rfl) (fun _ _ _ h => h) (Or.inl ⟨by kernel_rfl, fun w1 _ => by clear hHeld; go_simp⟩) trivial ?_
                try simp only [Act.put]
                try simp only [List.getElem_toArray]
                try simp only [List.getElem_cons_succ]
                try simp only [List.getElem_cons_zero]
                try simp only [List.setIfInBounds_toArray]
                try simp only [List.set_cons_succ, List.set_cons_zero]
                refine wpAnyH_take (i := 15) (v := .int .i64 CODE) rfl (by kernel_rfl) (by kernel_rfl) (by kernel_rfl) (fun _ _ _ h => h) (Or.inl ⟨by kernel_rfl, fun w1 _ => by clear hHeld; go_simp⟩) trivial ?_
                try simp only [Act.put]
                try simp only [List.getElem_toArray]
                try simp only [List.getElem_cons_succ]
                try simp only [List.getElem_cons_zero]
                try simp only [List.setIfInBounds_toArray]
                try simp only [List.set_cons_succ, List.set_cons_zero]
                have z0 : V5.cell? ⟨V1.heap.size, 0, none⟩ = some (.int .i64 0) := HZV5.out.all 0 _ rfl
                have z1 : V5.cell? ⟨V1.heap.size, 1, none⟩ = some (.int .i64 0) := HZV5.out.all 1 _ rfl
                have z2 : V5.cell? ⟨V1.heap.size, 2, none⟩ = some (.int .i64 0) := HZV5.out.all 2 _ rfl
                have z3 : V5.cell? ⟨V1.heap.size, 3, none⟩ = some (.int .i64 0) := HZV5.out.all 3 _ rfl
                have z4 : V5.cell? ⟨V1.heap.size, 4, none⟩ = some (.int .i64 0) := HZV5.out.all 4 _ rfl
                have z5 : V5.cell? ⟨V1.heap.size, 5, none⟩ = some (.int .i64 0) := HZV5.out.all 5 _ rfl
                have z6 : V5.cell? ⟨V1.heap.size, 6, none⟩ = some (.int .i64 0) := HZV5.out.all 6 _ rfl
                have z7 : V5.cell? ⟨V1.heap.size, 7, none⟩ = some (.int .i64 0) := HZV5.out.all 7 _ rfl
                have z8 : V5.cell? ⟨V1.heap.size, 8, none⟩ = some (.int .u64 0) := HZV5.out.all 8 _ rfl
                have z9 : V5.cell? ⟨V1.heap.size, 9, none⟩ = some (.string ⟨#[]⟩) := HZV5.out.all 9 _ rfl
                have z10 : V5.cell? ⟨V1.heap.size, 10, none⟩ = some (.string ⟨#[]⟩) := HZV5.out.all 10 _ rfl
                have fz := HZV5.out.z
                have hN : w.heap.size + 1 ≤ V1.heap.size := by have := HV1.out.size; simp at this; omega
                refine wpAnyH_ready (rs := [17]) (by kernel_rfl) (by simp) ?_
                refine (AllReadyH.cons rfl (fun K hK => ?_) AllReadyH.nil)
                · go_simp
                  refine hK.out _ _ trivial (fun hHeld => ?_)
                  clear hK
                  refine wpAnyH_take (i := 18) (v := .int .i64 CODE) rfl (by kernel_rfl) (by kernel_rfl) (by kernel_rfl) (fun _ _ _ h => h) (Or.inl ⟨by kernel_rfl, fun w1 _ => by clear hHeld; go_simp⟩) trivial ?_
                  try simp only [Act.put]
                  try simp only [List.getElem_toArray]
                  try simp only [List.getElem_cons_succ]
                  try simp only [List.getElem_cons_zero]
                  try simp only [List.setIfInBounds_toArray]
                  try simp only [List.set_cons_succ, List.set_cons_zero]
                  refine wpAnyH_done (by kernel_rfl) ?_ _
                  have F11 := hide (set11 (w := (w.alloc (.cells #[.int .i64 m.k, .int .i64 m.se, .int .i64 m.nu, .int .i64 m.jo, .int .i64 m.ba, .int .i64 m.ix, .int .i64 m.co, .int .i64 m.rc, .int .u64 (m.rb : Int), .string m.tx, .string m.pr] 26))) HZV5.out (by rw [World.size_alloc]; exact HV5.out) (by rw [World.size_alloc]; exact hN) (.int .i64 n.k) (.int .i64 n.se) (.int .i64 n.nu) (.int .i64 n.jo) (.int .i64 n.ba) (.int .i64 n.ix) (.int .i64 n.co) (.int .i64 n.rc) (.int .u64 (n.rb : Int)) (.string n.tx) (.string n.pr))
                  go_wp2_with fail
                  go_meet
                  case rel => exact ⟨_, rfl, rfl, F11.out.1, by have := F11.out.2; rw [World.size_alloc] at this; exact this⟩
          · go_simp
            refine hK.out _ _ trivial (fun hHeld => ?_)
            clear hK
            have HV6 := hide (below_in HV1.out (below_alloc V1 (.cells #[.int .i64 0, .int .i64 0, .int .i64 0, .int .i64 0, .int .i64 0, .int .i64 0, .int .i64 0, .int .i64 0, .int .u64 0, .string ⟨#[]⟩, .string ⟨#[]⟩] 26)))
            have HZV6 : Hid (Mg (V1.alloc (.cells #[.int .i64 0, .int .i64 0, .int .i64 0, .int .i64 0, .int .i64 0, .int .i64 0, .int .i64 0, .int .i64 0, .int .u64 0, .string ⟨#[]⟩, .string ⟨#[]⟩] 26)) V1.heap.size (Wr.zM 0)) := heap_alloc_new V1 _
            have hsV6 : (V1.alloc (.cells #[.int .i64 0, .int .i64 0, .int .i64 0, .int .i64 0, .int .i64 0, .int .i64 0, .int .i64 0, .int .i64 0, .int .u64 0, .string ⟨#[]⟩, .string ⟨#[]⟩] 26)).cell? ⟨W0.heap.size, 0, none⟩ = some (.int .u8 (c.toNat : Int)) := Lib.cell?_alloc_some _ hsV1
            generalize V1.alloc (.cells #[.int .i64 0, .int .i64 0, .int .i64 0, .int .i64 0, .int .i64 0, .int .i64 0, .int .i64 0, .int .i64 0, .int .u64 0, .string ⟨#[]⟩, .string ⟨#[]⟩] 26) = V6 at *
            refine wpAnyH_ready (rs := [5]) (by kernel_rfl) (by simp) ?_
            refine (AllReadyH.cons rfl (fun K hK => ?_) AllReadyH.nil)
            · have hcs := str_of (g := W0.heap.size) hsV6
              go_simp
              refine hK.out _ _ trivial (fun hHeld => ?_)
              clear hK
              refine wpAnyH_take (i := 6) (v := .string (EB.extract 0 k ++ ⟨#[c]⟩)) rfl (by kernel_rfl) (by kernel_rfl) (by kernel_rfl) (fun _ _ _ h => h) (Or.inl ⟨by kernel_rfl, fun w1 _ => by clear hHeld; go_simp⟩) trivial ?_
              try simp only [Act.put]
              try simp only [List.getElem_toArray]
              try simp only [List.getElem_cons_succ]
              try simp only [List.getElem_cons_zero]
              try simp only [List.setIfInBounds_toArray]
              try simp only [List.set_cons_succ, List.set_cons_zero]
              refine wpAnyH_take (i := 11) (v := .string SP) rfl (by kernel_rfl) (by kernel_rfl) (by kernel_rfl) (fun _ _ _ h => h) (Or.inl ⟨by kernel_rfl, fun w1 _ => by clear hHeld; go_simp⟩) trivial ?_
              try simp only [Act.put]
              try simp only [List.getElem_toArray]
              try simp only [List.getElem_cons_succ]
              try simp only [List.getElem_cons_zero]
              try simp only [List.setIfInBounds_toArray]
              try simp only [List.set_cons_succ, List.set_cons_zero]
              refine wpAnyH_ready (rs := [12]) (by kernel_rfl) (by simp) ?_
              refine (AllReadyH.cons rfl (fun K hK => ?_) AllReadyH.nil)
              · go_simp
                refine (HDe.out _).mono ?_
                rintro e V7 ⟨rfl, hb5⟩
                have HV7 := hide (below_in HV6.out hb5)
                have HZV7 := hide (HZV6.out.block (hb5.block _ HZV6.out.lt))
                clear hb5
                refine hK.out _ _ trivial (fun hHeld => ?_)
                clear hK
                refine wpAnyH_take (i := 13) (v := .tuple #[.agg #[.int .i64 n.k, .int .i64 n.se, .int .i64 n.nu, .int .i64 n.jo, .int .i64 n.ba, .int .i64 n.ix, .int .i64 n.co, .int .i64 n.rc, .int .u64 (n.rb : Int), .string n.tx, .string n.pr], .int .i64 CODE]) rfl (by kernel_rfl) (by kernel_rfl) (by kernel_rfl) (fun _ _ _ h => h) (Or.inl ⟨by kernel_rfl, fun w1 _ => by clear hHeld; go_simp⟩) trivial ?_
                try simp only [Act.put]
                try simp only [List.getElem_toArray]
                try simp only [List.getElem_cons_succ]
                try simp only [List.getElem_cons_zero]
                try simp only [List.setIfInBounds_toArray]
                try simp only [List.set_cons_succ, List.set_cons_zero]
                refine wpAnyH_take (i := 14) (v := .agg #[.int .i64 n.k, .int .i64 n.se, .int .i64 n.nu, .int .i64 n.jo, .int .i64 n.ba, .int .i64 n.ix, .int .i64 n.co, .int .i64 n.rc, .int .u64 (n.rb : Int), .string n.tx, .string n.pr]) rfl (by kernel_rfl) (by kernel_rfl) (by kernel_rfl) (fun _ _ _ h => h) (Or.inl ⟨by kernel_rfl, fun w1 _ => by clear hHeld; go_simp⟩) trivial ?_
                try simp only [Act.put]
                try simp only [List.getElem_toArray]
                try simp only [List.getElem_cons_succ]
                try simp only [List.getElem_cons_zero]
                try simp only [List.setIfInBounds_toArray]
                try simp only [List.set_cons_succ, List.set_cons_zero]
                refine wpAnyH_take (i := 15) (v := .int .i64 CODE) rfl (by kernel_rfl) (by kernel_rfl) (by kernel_rfl) (fun _ _ _ h => h) (Or.inl ⟨by kernel_rfl, fun w1 _ => by clear hHeld; go_simp⟩) trivial ?_
                try simp only [Act.put]
                try simp only [List.getElem_toArray]
                try simp only [List.getElem_cons_succ]
                try simp only [List.getElem_cons_zero]
                try simp only [List.setIfInBounds_toArray]
                try simp only [List.set_cons_succ, List.set_cons_zero]
                have z0 : V7.cell? ⟨V1.heap.size, 0, none⟩ = some (.int .i64 0) := HZV7.out.all 0 _ rfl
                have z1 : V7.cell? ⟨V1.heap.size, 1, none⟩ = some (.int .i64 0) := HZV7.out.all 1 _ rfl
                have z2 : V7.cell? ⟨V1.heap.size, 2, none⟩ = some (.int .i64 0) := HZV7.out.all 2 _ rfl
                have z3 : V7.cell? ⟨V1.heap.size, 3, none⟩ = some (.int .i64 0) := HZV7.out.all 3 _ rfl
                have z4 : V7.cell? ⟨V1.heap.size, 4, none⟩ = some (.int .i64 0) := HZV7.out.all 4 _ rfl
                have z5 : V7.cell? ⟨V1.heap.size, 5, none⟩ = some (.int .i64 0) := HZV7.out.all 5 _ rfl
                have z6 : V7.cell? ⟨V1.heap.size, 6, none⟩ = some (.int .i64 0) := HZV7.out.all 6 _ rfl
                have z7 : V7.cell? ⟨V1.heap.size, 7, none⟩ = some (.int .i64 0) := HZV7.out.all 7 _ rfl
                have z8 : V7.cell? ⟨V1.heap.size, 8, none⟩ = some (.int .u64 0) := HZV7.out.all 8 _ rfl
                have z9 : V7.cell? ⟨V1.heap.size, 9, none⟩ = some (.string ⟨#[]⟩) := HZV7.out.all 9 _ rfl
                have z10 : V7.cell? ⟨V1.heap.size, 10, none⟩ = some (.string ⟨#[]⟩) := HZV7.out.all 10 _ rfl
                have fz := HZV7.out.z
                have hN : w.heap.size + 1 ≤ V1.heap.size := by have := HV1.out.size; simp at this; omega
                refine wpAnyH_ready (rs := [17]) (by kernel_rfl) (by simp) ?_
                refine (AllReadyH.cons rfl (fun K hK => ?_) AllReadyH.nil)
                · go_simp
                  refine hK.out _ _ trivial (fun hHeld => ?_)
                  clear hK
                  refine wpAnyH_take (i := 18) (v := .int .i64 CODE) rfl (by kernel_rfl) (by kernel_rfl) (by kernel_rfl) (fun _ _ _ h => h) (Or.inl ⟨by kernel_rfl, fun w1 _ => by clear hHeld; go_simp⟩) trivial ?_
                  try simp only [Act.put]
                  try simp only [List.getElem_toArray]
                  try simp only [List.getElem_cons_succ]
                  try simp only [List.getElem_cons_zero]
                  try simp only [List.setIfInBounds_toArray]
                  try simp only [List.set_cons_succ, List.set_cons_zero]
                  refine wpAnyH_done (by kernel_rfl) ?_ _
                  have F11 := hide (set11 (w := (w.alloc (.cells #[.int .i64 m.k, .int .i64 m.se, .int .i64 m.nu, .int .i64 m.jo, .int .i64 m.ba, .int .i64 m.ix, .int .i64 m.co, .int .i64 m.rc, .int .u64 (m.rb : Int), .string m.tx, .string m.pr] 26))) HZV7.out (by rw [World.size_alloc]; exact HV7.out) (by rw [World.size_alloc]; exact hN) (.int .i64 n.k) (.int .i64 n.se) (.int .i64 n.nu) (.int .i64 n.jo) (.int .i64 n.ba) (.int .i64 n.ix) (.int .i64 n.co) (.int .i64 n.rc) (.int .u64 (n.rb : Int)) (.string n.tx) (.string n.pr))
                  go_wp2_with fail
                  go_meet
                  case rel => exact ⟨_, rfl, rfl, F11.out.1, by have := F11.out.2; rw [World.size_alloc] at this; exact this⟩
        · go_simp
          refine hK.out _ _ trivial (fun hHeld => ?_)
          clear hK
          have HV8 := hide (below_in HW0.out (below_alloc W0 (.cells #[.int .i64 0, .int .i64 0, .int .i64 0, .int .i64 0, .int .i64 0, .int .i64 0, .int .i64 0, .int .i64 0, .int .u64 0, .string ⟨#[]⟩, .string ⟨#[]⟩] 26)))
          have HZV8 : Hid (Mg (W0.alloc (.cells #[.int .i64 0, .int .i64 0, .int .i64 0, .int .i64 0, .int .i64 0, .int .i64 0, .int .i64 0, .int .i64 0, .int .u64 0, .string ⟨#[]⟩, .string ⟨#[]⟩] 26)) W0.heap.size (Wr.zM 0)) := heap_alloc_new W0 _
          generalize W0.alloc (.cells #[.int .i64 0, .int .i64 0, .int .i64 0, .int .i64 0, .int .i64 0, .int .i64 0, .int .i64 0, .int .i64 0, .int .u64 0, .string ⟨#[]⟩, .string ⟨#[]⟩] 26) = V8 at *
          refine wpAnyH_ready (rs := [4]) (by kernel_rfl) (by simp) ?_
          refine (AllReadyH.cons rfl (fun K hK => ?_) AllReadyH.nil)
          · go_simp
            refine hK.out _ _ trivial (fun hHeld => ?_)
            clear hK
            have HV9 := hide (below_in HV8.out (below_alloc V8 (.cells #[.int .u8 (c.toNat : Int)] 5)))
            have hsV9 : (V8.alloc (.cells #[.int .u8 (c.toNat : Int)] 5)).cell? ⟨V8.heap.size, 0, none⟩ = some (.int .u8 (c.toNat : Int)) := by rw [World.cell?_alloc_at _ _ _ _ rfl]; rfl
            have HZV9 := hide (HZV8.out.block (w' := V8.alloc (.cells #[.int .u8 (c.toNat : Int)] 5)) (Below.heap_alloc V8 _ _ HZV8.out.lt))
            generalize V8.alloc (.cells #[.int .u8 (c.toNat : Int)] 5) = V9 at *
            refine wpAnyH_ready (rs := [5]) (by kernel_rfl) (by simp) ?_
            refine (AllReadyH.cons rfl (fun K hK => ?_) AllReadyH.nil)
            · have hcs := str_of (g := V8.heap.size) hsV9
              go_simp
              refine hK.out _ _ trivial (fun hHeld => ?_)
              clear hK
              refine wpAnyH_take (i := 6) (v := .string (EB.extract 0 k ++ ⟨#[c]⟩)) rfl (by kernel_rfl) (by kernel_rfl) (by kernel_rfl) (fun _ _ _ h => h) (Or.inl ⟨by kernel_rfl, fun w1 _ => by clear hHeld; go_simp⟩) trivial ?_
              try simp only [Act.put]
              try simp only [List.getElem_toArray]
              try simp only [List.getElem_cons_succ]
              try simp only [List.getElem_cons_zero]
              try simp only [List.setIfInBounds_toArray]
              try simp only [List.set_cons_succ, List.set_cons_zero]
              refine wpAnyH_take (i := 11) (v := .string SP) rfl (by kernel_rfl) (by kernel_rfl) (by kernel_rfl) (fun _ _ _ h => h) (Or.inl ⟨by kernel_rfl, fun w1 _ => by clear hHeld; go_simp⟩) trivial ?_
              try simp only [Act.put]
              try simp only [List.getElem_toArray]
              try simp only [List.getElem_cons_succ]
              try simp only [List.getElem_cons_zero]
              try simp only [List.setIfInBounds_toArray]
              try simp only [List.set_cons_succ, List.set_cons_zero]
              refine wpAnyH_ready (rs := [12]) (by kernel_rfl) (by simp) ?_
              refine (AllReadyH.cons rfl (fun K hK => ?_) AllReadyH.nil)
              · go_simp
                refine (HDe.out _).mono ?_
                rintro e V10 ⟨rfl, hb5⟩
                have HV10 := hide (below_in HV9.out hb5)
                have HZV10 := hide (HZV9.out.block (hb5.block _ HZV9.out.lt))
                clear hb5
                refine hK.out _ _ trivial (fun hHeld => ?_)
                clear hK
                refine wpAnyH_take (i := 13) (v := .tuple #[.agg #[.int .i64 n.k, .int .i64 n.se, .int .i64 n.nu, .int .i64 n.jo, .int .i64 n.ba, .int .i64 n.ix, .int .i64 n.co, .int .i64 n.rc, .int .u64 (n.rb : Int), .string n.tx, .string n.pr], .int .i64 CODE]) rfl (by kernel_rfl) (by kernel_rfl) (by kernel_rfl) (fun _ _ _ h => h) (Or.inl ⟨by kernel_rfl, fun w1 _ => by clear hHeld; go_simp⟩) trivial ?_
                try simp only [Act.put]
                try simp only [List.getElem_toArray]
                try simp only [List.getElem_cons_succ]
                try simp only [List.getElem_cons_zero]
                try simp only [List.setIfInBounds_toArray]
                try simp only [List.set_cons_succ, List.set_cons_zero]
                refine wpAnyH_take (i := 14) (v := .agg #[.int .i64 n.k, .int .i64 n.se, .int .i64 n.nu, .int .i64 n.jo, .int .i64 n.ba, .int .i64 n.ix, .int .i64 n.co, .int .i64 n.rc, .int .u64 (n.rb : Int), .string n.tx, .string n.pr]) rfl (by kernel_rfl) (by kernel_rfl) (by kernel_rfl) (fun _ _ _ h => h) (Or.inl ⟨by kernel_rfl, fun w1 _ => by clear hHeld; go_simp⟩) trivial ?_
                try simp only [Act.put]
                try simp only [List.getElem_toArray]
                try simp only [List.getElem_cons_succ]
                try simp only [List.getElem_cons_zero]
                try simp only [List.setIfInBounds_toArray]
                try simp only [List.set_cons_succ, List.set_cons_zero]
                refine wpAnyH_take (i := 15) (v := .int .i64 CODE) rfl (by kernel_rfl) (by kernel_rfl) (by kernel_rfl) (fun _ _ _ h => h) (Or.inl ⟨by kernel_rfl, fun w1 _ => by clear hHeld; go_simp⟩) trivial ?_
                try simp only [Act.put]
                try simp only [List.getElem_toArray]
                try simp only [List.getElem_cons_succ]
                try simp only [List.getElem_cons_zero]
                try simp only [List.setIfInBounds_toArray]
                try simp only [List.set_cons_succ, List.set_cons_zero]
                have z0 : V10.cell? ⟨W0.heap.size, 0, none⟩ = some (.int .i64 0) := HZV10.out.all 0 _ rfl
                have z1 : V10.cell? ⟨W0.heap.size, 1, none⟩ = some (.int .i64 0) := HZV10.out.all 1 _ rfl
                have z2 : V10.cell? ⟨W0.heap.size, 2, none⟩ = some (.int .i64 0) := HZV10.out.all 2 _ rfl
                have z3 : V10.cell? ⟨W0.heap.size, 3, none⟩ = some (.int .i64 0) := HZV10.out.all 3 _ rfl
                have z4 : V10.cell? ⟨W0.heap.size, 4, none⟩ = some (.int .i64 0) := HZV10.out.all 4 _ rfl
                have z5 : V10.cell? ⟨W0.heap.size, 5, none⟩ = some (.int .i64 0) := HZV10.out.all 5 _ rfl
                have z6 : V10.cell? ⟨W0.heap.size, 6, none⟩ = some (.int .i64 0) := HZV10.out.all 6 _ rfl
                have z7 : V10.cell? ⟨W0.heap.size, 7, none⟩ = some (.int .i64 0) := HZV10.out.all 7 _ rfl
                have z8 : V10.cell? ⟨W0.heap.size, 8, none⟩ = some (.int .u64 0) := HZV10.out.all 8 _ rfl
                have z9 : V10.cell? ⟨W0.heap.size, 9, none⟩ = some (.string ⟨#[]⟩) := HZV10.out.all 9 _ rfl
                have z10 : V10.cell? ⟨W0.heap.size, 10, none⟩ = some (.string ⟨#[]⟩) := HZV10.out.all 10 _ rfl
                have fz := HZV10.out.z
                have hN : w.heap.size + 1 ≤ W0.heap.size := by have := HW0.out.size; simp at this; omega
                refine wpAnyH_ready (rs := [17]) (by kernel_rfl) (by simp) ?_
                refine (AllReadyH.cons rfl (fun K hK => ?_) AllReadyH.nil)
                · go_simp
                  refine hK.out _ _ trivial (fun hHeld => ?_)
                  clear hK
                  refine wpAnyH_take (i := 18) (v := .int .i64 CODE) rfl (by kernel_rfl) (by kernel_rfl) (by kernel_rfl) (fun _ _ _ h => h) (Or.inl ⟨by kernel_rfl, fun w1 _ => by clear hHeld; go_simp⟩) trivial ?_
                  try simp only [Act.put]
                  try simp only [List.getElem_toArray]
                  try simp only [List.getElem_cons_succ]
                  try simp only [List.getElem_cons_zero]
                  try simp only [List.setIfInBounds_toArray]
                  try simp only [List.set_cons_succ, List.set_cons_zero]
                  refine wpAnyH_done (by kernel_rfl) ?_ _
                  have F11 := hide (set11 (w := (w.alloc (.cells #[.int .i64 m.k, .int .i64 m.se, .int .i64 m.nu, .int .i64 m.jo, .int .i64 m.ba, .int .i64 m.ix, .int .i64 m.co, .int .i64 m.rc, .int .u64 (m.rb : Int), .string m.tx, .string m.pr] 26))) HZV10.out (by rw [World.size_alloc]; exact HV10.out) (by rw [World.size_alloc]; exact hN) (.int .i64 n.k) (.int .i64 n.se) (.int .i64 n.nu) (.int .i64 n.jo) (.int .i64 n.ba) (.int .i64 n.ix) (.int .i64 n.co) (.int .i64 n.rc) (.int .u64 (n.rb : Int)) (.string n.tx) (.string n.pr))
                  go_wp2_with fail
                  go_meet
                  case rel => exact ⟨_, rfl, rfl, F11.out.1, by have := F11.out.2; rw [World.size_alloc] at this; exact this⟩
      case rest =>
        obtain ⟨N, rfl, rfl, HMn, HBn⟩ := hcut
        have Mn := HMn.out
        have p0 : wc.cell? ⟨N, 0, none⟩ = some (.int .i64 n.k) := Mn.all 0 _ rfl
        have p1 : wc.cell? ⟨N, 1, none⟩ = some (.int .i64 n.se) := Mn.all 1 _ rfl
        have p2 : wc.cell? ⟨N, 2, none⟩ = some (.int .i64 n.nu) := Mn.all 2 _ rfl
        have p3 : wc.cell? ⟨N, 3, none⟩ = some (.int .i64 n.jo) := Mn.all 3 _ rfl
        have p4 : wc.cell? ⟨N, 4, none⟩ = some (.int .i64 n.ba) := Mn.all 4 _ rfl
        have p5 : wc.cell? ⟨N, 5, none⟩ = some (.int .i64 n.ix) := Mn.all 5 _ rfl
        have p6 : wc.cell? ⟨N, 6, none⟩ = some (.int .i64 n.co) := Mn.all 6 _ rfl
        have p7 : wc.cell? ⟨N, 7, none⟩ = some (.int .i64 n.rc) := Mn.all 7 _ rfl
        have p8 : wc.cell? ⟨N, 8, none⟩ = some (.int .u64 (n.rb : Int)) := Mn.all 8 _ rfl
        have p9 : wc.cell? ⟨N, 9, none⟩ = some (.string n.tx) := Mn.all 9 _ rfl
        have p10 : wc.cell? ⟨N, 10, none⟩ = some (.string n.pr) := Mn.all 10 _ rfl
        have Ma := mg_in HBn.out
        have q0 : wc.cell? ⟨w.heap.size, 0, none⟩ = some (.int .i64 m.k) := Ma.all 0 _ rfl
        have q1 : wc.cell? ⟨w.heap.size, 1, none⟩ = some (.int .i64 m.se) := Ma.all 1 _ rfl
        have q2 : wc.cell? ⟨w.heap.size, 2, none⟩ = some (.int .i64 m.nu) := Ma.all 2 _ rfl
        have q3 : wc.cell? ⟨w.heap.size, 3, none⟩ = some (.int .i64 m.jo) := Ma.all 3 _ rfl
        have q4 : wc.cell? ⟨w.heap.size, 4, none⟩ = some (.int .i64 m.ba) := Ma.all 4 _ rfl
        have q5 : wc.cell? ⟨w.heap.size, 5, none⟩ = some (.int .i64 m.ix) := Ma.all 5 _ rfl
        have q6 : wc.cell? ⟨w.heap.size, 6, none⟩ = some (.int .i64 m.co) := Ma.all 6 _ rfl
        have q7 : wc.cell? ⟨w.heap.size, 7, none⟩ = some (.int .i64 m.rc) := Ma.all 7 _ rfl
        have q8 : wc.cell? ⟨w.heap.size, 8, none⟩ = some (.int .u64 (m.rb : Int)) := Ma.all 8 _ rfl
        have q9 : wc.cell? ⟨w.heap.size, 9, none⟩ = some (.string m.tx) := Ma.all 9 _ rfl
        have q10 : wc.cell? ⟨w.heap.size, 10, none⟩ = some (.string m.pr) := Ma.all 10 _ rfl
        clear Mn Ma
        have hq1 : ∀ w, (binOp .eql 26 (.agg #[.int .i64 n.k, .int .i64 n.se, .int .i64 n.nu, .int .i64 n.jo, .int .i64 n.ba, .int .i64 n.ix, .int .i64 n.co, .int .i64 n.rc, .int .u64 (n.rb : Int), .string n.tx, .string n.pr]) (.agg #[.int .i64 0, .int .i64 0, .int .i64 0, .int .i64 0, .int .i64 0, .int .i64 0, .int .i64 0, .int .i64 0, .int .u64 0, .string ⟨#[]⟩, .string ⟨#[]⟩])).run Try.prog w = .ok (.bool (decide (n = Wr.zM 0))) w := eql_msg n (Wr.zM 0)
        have hq2 : ∀ w, (binOp .neq 26 (.agg #[.int .i64 n.k, .int .i64 n.se, .int .i64 n.nu, .int .i64 n.jo, .int .i64 n.ba, .int .i64 n.ix, .int .i64 n.co, .int .i64 n.rc, .int .u64 (n.rb : Int), .string n.tx, .string n.pr]) (.agg #[.int .i64 m.k, .int .i64 m.se, .int .i64 m.nu, .int .i64 m.jo, .int .i64 m.ba, .int .i64 m.ix, .int .i64 m.co, .int .i64 m.rc, .int .u64 (m.rb : Int), .string m.tx, .string m.pr])).run Try.prog w = .ok (.bool (!decide (n = m))) w := neq_msg n m
        rcases HD3.out with ⟨h1, h2⟩ | ⟨h2, h1⟩
        · rw [decide_eq_true h1] at hq1
          clear h1 hq2
          subst h2
          go_wp2
          go_ret
          exact ⟨rfl, b_out HBn.out⟩
        · rw [decide_eq_false h1] at hq2
          clear h1 hq1
          subst h2
          go_wp2
          go_ret
          exact ⟨rfl, b_out HBn.out⟩
  · have hne : ((Wr.check m : Int) != 0) = true := by simp; omega
    generalize Wr.check m = E at *
    unfold msgC at HE HSt ⊢
    go_enter Try.func3, Try.ntmps3
    go_wp2_with fail
    refine (HE.out _).mono ?_
    rintro e w1 ⟨rfl, hb1⟩
    have H1 := hide (below_in HSt.out hb1)
    clear hb1
    go_wp2_with fail
    refine (HA.out _).mono ?_
    rintro e w2 ⟨rfl, hb2⟩
    have H2 := hide (below_in H1.out hb2)
    clear hb2
    go_wp2
    go_ret
    exact ⟨rfl, b_out H2.out⟩
end Go.Proofs.Ytmmnjkbdldaniab
