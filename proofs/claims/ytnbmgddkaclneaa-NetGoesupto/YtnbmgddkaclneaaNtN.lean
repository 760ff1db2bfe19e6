import Derived.Test.YtnbmgddkaclneaaNtM
namespace Go.Proofs.Ytnbmgddkaclneaa
open Go.RowKit

theorem bag_boxed {T : Nat} {w w2 : World} {v : Value} {l : List Dg} (s : Int) (hown : w2.ownsRow w.heap.size 46 6 v l.length (dcs l)) (hb : Below w.heap.size w w2) :
    Bag T w.heap.size (w2.alloc (.cells #[v, .int .i64 s] T)) w2.heap.size v l s ∧ Below w.heap.size w (w2.alloc (.cells #[v, .int .i64 s] T)) :=
  ⟨⟨heap_alloc_new w2 _, hb.size, hown.alloc _, fun e => absurd (hown.lt _ e).2 (by omega)⟩, hb.alloc hb.size _⟩
section
variable {P : Program} {w : World}
theorem step_append_own {ops : Array Oper} {o : Oper} {a : Act} {K : Act → World → Prop} {Q : Exit → Act → World → Prop} {E : Prop} (hgd : o.guard = none) (s x : Operand) (t : TypeId)
    (ho : o.op = .call { callee := .builtin .append, args := #[s, x], argTypes := #[t, t] })
    (base : Nat) (e : TypeId) (i : TypeInfo) (z : Value) (size bytes : Nat) (ht : P.underlying t = some (.slice e)) (hi : P.info? e = some i) (hz : i.zero = some z)
    (hsize : i.size = size) (hby : i.bytes = bytes) (hzs : z.cells.size = size) (hsz : 0 < size)
    (v : Value) (n : Nat) (xs : List Value) (hs : a.eval s = v) (hown : w.ownsRow base e size v n xs)
    (ad : Addr) (m c : Nat) (news : List Value) (hx : a.eval x = .slice (some ad) m c) (hl : news.length = m * size) (hnews : ∀ j u, news[j]? = some u → w.cell? (ad.add j) = some u) (h1 : ∀ u ∈ news, u.oneCell' = true)
    (h63 : n + m ≤ maxLen) (hbytes : (n + m) * bytes ≤ 140737488355328) (hbase : base ≤ w.heap.size)
    (h : ∀ v' w', w'.ownsRow base e size v' (n + m) (xs ++ news) → w.grownBy w' v.ownBlock → (v' = .slice none 0 0 ↔ v = .slice none 0 0 ∧ m = 0) → K (a.put o.dst v') w') :
    if Region.wanted o (yielded ops a.tmps) = true then Oper.wp P o a w K Q else E := by
  have hw : Region.wanted o (yielded ops a.tmps) = true := by simp [Region.wanted, hgd]
  rw [if_pos hw]
  exact wp_append_own w s x t ho base e i z size bytes ht hi hz hsize hby hzs hsz v n xs hs hown ad m c news hx hl hnews h1 h63 hbytes hbase h
end
theorem below_drew {B : Nat} {a b : World} (h : Below B a.drew b) : Below B a b := ⟨h.os, h.tape, h.output, h.size, h.block⟩

set_option maxHeartbeats 1000000 in
set_option maxRecDepth 8000 in
theorem nclone_any {base : Nat} {w : World} {b : Nat} {v : Value} {l : List Dg} {s : Int} (h : Bag 58 base w b v l s) (hl : l.length * 56 ≤ 140737488355328) :
    Calls Try.prog 9 #[.pointer (some ⟨b, 0, none⟩)] w fun e w' => ∃ b' v', e = .returned (.pointer (some ⟨b', 0, none⟩)) ∧ Bag 58 w.heap.size w' b' v' l s ∧ Below w.heap.size w w' := by
  have c0 := h.c0
  have c1 := h.c1
  have H := hide h
  clear h
  go_enter Try.func9, Try.ntmps9
  go_wp2_with fail
  go_region_held3 (fun w' => w'.cell? ⟨b, 0, none⟩ = some v ∧ w'.cell? ⟨b, 1, none⟩ = some (.int .i64 s)) (go_keep) (first | (go_at_call 23; refine (clone_any H.out.drew.row hl).mono ?_; rintro e w2 ⟨v', rfl, hown, hb2⟩; obtain ⟨ad, n', c', rfl⟩ := own_slice hown; have HO := hide hown; have HL := hide (below_drew hb2); have k0 := (H.out.below HL.out).c0; have k1 := (H.out.below HL.out).c1; clear hown hb2))
  go_wp2
  go_ret
  have hE := bag_boxed (T := 58) (w := w) s HO.out HL.out
  exact ⟨_, _, rfl, hE.1, hE.2⟩

theorem made_drew {w : World} {base : Nat} {e : TypeId} {size : Nat} (hb : base ≤ w.heap.size) : (w.alloc (.cells #[] e)).drew.ownsRow base e size (.slice (some ⟨w.heap.size, 0, none⟩) 0 0) 0 [] :=
  World.ownsRow_made w #[] 0 hb (by unfold maxLen; omega) (by simp)

set_option maxHeartbeats 1000000 in
set_option maxRecDepth 8000 in
theorem rclone_any {base : Nat} {w : World} {b : Nat} {v : Value} {l : List Dg} {s : Int} (h : Bag 30 base w b v l s) (hl : l.length * 56 ≤ 140737488355328) :
    Calls Try.prog 10 #[.pointer (some ⟨b, 0, none⟩)] w fun e w' => ∃ b' v', e = .returned (.pointer (some ⟨b', 0, none⟩)) ∧ Bag 30 w.heap.size w' b' v' l s ∧ Below w.heap.size w w' := by
  obtain ⟨i0, hi0, hz0, hz1, hz2⟩ := info_parts Try.infoD
  have hlt := h.lt
  have c0 := (h.alloc (.cells #[] 46)).c0
  have c1 := (h.alloc (.cells #[] 46)).c1
  have H := hide h
  rcases own_form h.row with ⟨rfl, hn⟩ | ⟨g, cap, rfl, hg⟩
  · have HE : Hid ((w.alloc (.cells #[] 46)).ownsRow w.heap.size 46 6 (.slice (some ⟨w.heap.size, 0, none⟩) 0 0) l.length (dcs l)) := by
      obtain rfl : l = [] := List.length_eq_zero_iff.1 hn
      exact World.ownsRow_made w #[] 0 (Nat.le_refl _) (by decide) rfl
    clear h hn
    go_enter Try.func10, Try.ntmps10
    go_wp2_with fail
    go_region_held3 (fun w' => w'.cell? ⟨b, 0, none⟩ = some (.slice none 0 0) ∧ w'.cell? ⟨b, 1, none⟩ = some (.int .i64 s)) (go_keep) (fail)
    go_wp2
    go_ret
    have hE := bag_boxed (T := 30) (w := w) s HE.out ((Below.refl _ w).alloc (Nat.le_refl _) (.cells #[] 46))
    rw [World.size_alloc] at hE
    exact ⟨_, _, rfl, hE.1.drew, hE.2.drew⟩
  · have HR := hide h
    clear h
    go_enter Try.func10, Try.ntmps10
    go_wp2_with fail
    have HOW := hide (made_drew (w := w) (base := w.heap.size) (e := 46) (size := 6) (Nat.le_refl _))
    have HSRC : Hid (∀ j u, (dcs l)[j]? = some u → (w.alloc (.cells #[] 46)).drew.cell? ((⟨g, 0, none⟩ : Addr).add j) = some u) := fun j u hu => Lib.cell?_alloc_some _ (HR.out.row.cells (g := g) rfl j u hu)
    have HSZ : Hid (w.heap.size ≤ (w.alloc (.cells #[] 46)).drew.heap.size) := by show _ ≤ (w.alloc _).heap.size; rw [World.size_alloc]; omega
    have HLW : Hid (Below w.heap.size w (w.alloc (.cells #[] 46)).drew) := ((Below.refl _ w).alloc (Nat.le_refl _) _).drew
    generalize w.alloc (.cells #[] 46) = W1 at *
    go_region_held3 (fun w' => w'.cell? ⟨b, 0, none⟩ = some (.slice (some ⟨g, 0, none⟩) l.length cap) ∧ w'.cell? ⟨b, 1, none⟩ = some (.int .i64 s)) (go_keep) (first | (refine step_append_own rfl (.tmp 5) (.tmp 9) 28 rfl w.heap.size 46 i0 (.agg #[.int .i64 0, .int .i64 0, .int .i64 0, .int .i64 0, .int .i64 0, .string ByteArray.empty]) 6 56 Try.underlying28 hi0 hz0 hz1 hz2 rfl (by decide) (.slice (some ⟨w.heap.size, 0, none⟩) 0 0) 0 [] rfl HOW.out ⟨g, 0, none⟩ l.length cap (dcs l) rfl (dcs_len l) HSRC.out (oneC_dcs l) (by unfold maxLen; omega) (by omega) HSZ.out ?_; intro v' w2 hown hgrow hnil; obtain ⟨ad, n', c', rfl⟩ := own_slice hown; rw [Nat.zero_add, List.nil_append] at hown; have HO := hide hown; have HL := hide (HLW.out.grown hgrow HSZ.out (fun k hk => by simp only [Value.ownBlock] at hk; injection hk with hk; omega)); have k0 := (H.out.below HL.out).c0; have k1 := (H.out.below HL.out).c1; clear hown hgrow hnil))
    go_wp2
    go_ret
    have hE := bag_boxed (T := 30) (w := w) s HO.out HL.out
    exact ⟨_, _, rfl, hE.1, hE.2⟩
end Go.Proofs.Ytnbmgddkaclneaa
