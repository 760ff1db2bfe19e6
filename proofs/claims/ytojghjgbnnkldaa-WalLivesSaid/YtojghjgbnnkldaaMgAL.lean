import Derived.Test.YtojghjgbnnkldaaMgAK

section
namespace Go.Proofs.Ytojghjgbnnkldaa
open Go.RowKit Go.Shelf
open Wl (Hd WS Log)

def slLen : Value → Nat
  | .slice _ n _ => n
  | _ => 0
theorem own_len {w : World} {B n : Nat} {e : TypeId} {v : Value} {xs : List Value} (h : w.ownsRow B e 1 v n xs) : slLen v = n := by
  rcases h.2 with ⟨rfl, hn⟩ | ⟨g, cap, cur, rfl, _⟩
  · exact hn.symm
  · rfl
theorem drewN_below (w : World) (n : Nat) : Below w.heap.size w (w.drewN n) := ⟨rfl, rfl, rfl, Nat.le_refl _, fun _ _ => rfl⟩
theorem toList_inj {a b : ByteArray} (h : a.toList = b.toList) : a = b := by
  rw [ByteArray.toList_eq, ByteArray.toList_eq] at h
  exact ByteArray.ext (Array.toList_inj.mp h)
theorem own_lo {w : World} {B n : Nat} {e : TypeId} {v : Value} {xs : List Value} (h : w.ownsRow B e 1 v n xs) {k : Nat} (hk : v.ownBlock = some k) : B ≤ k ∧ k < w.heap.size := by
  rcases h.2 with ⟨rfl, hn⟩ | ⟨g, cap, cur, rfl, hb, hg, _⟩
  · cases hk
  · injection hk with hk; subst hk; exact ⟨hb, lt_of_block hg⟩
theorem size_zero {s : ByteArray} (h : s.size = 0) : s = ⟨#[]⟩ := ByteArray.ext (Array.eq_empty_of_size_eq_zero h)
theorem unf_end {b : ByteArray} {n p : Nat} (h : b.size ≤ p) : Wl.unf b n p = some [] := by cases n <;> simp [Wl.unf, h]
theorem unf_no {b : ByteArray} {n p : Nat} (h : ¬ b.size ≤ p) (h2 : ¬ (textK b p 2048 = 0 ∧ (textV b p).size ≠ 0)) : Wl.unf b n p = none := by
  cases n with
  | zero => simp [Wl.unf, h]
  | succ n => rw [Wl.unf, if_neg h, if_neg h2]
theorem unf_yes {b : ByteArray} {n p : Nat} (h : ¬ b.size ≤ p) (h2 : textK b p 2048 = 0 ∧ (textV b p).size ≠ 0) : Wl.unf b (n + 1) p = (Wl.unf b n (numQ b p + numV b p)).map (textV b p :: ·) := by
  rw [Wl.unf, if_neg h, if_pos h2]
def UPost (w : World) (x : Option (List ByteArray)) (e : Ending) (w' : World) : Prop :=
  Below w.heap.size w w' ∧ match x with
    | some l => ∃ v, e = .returned (.tuple #[v, .bool true]) ∧ w'.ownsRow w.heap.size 9 1 v l.length (l.map .string)
    | none => e = .returned (.tuple #[.slice none 0 0, .bool false])
theorem textK_next {b : ByteArray} {p : Nat} (hp : p ≤ b.size) (h : textK b p 2048 = 0) : p < numQ b p + numV b p ∧ numQ b p + numV b p ≤ b.size ∧ (textV b p).size = numV b p := by
  unfold textK at h
  have h1 : numK b p 2048 23 = 0 := by
    by_cases h2 : numK b p 2048 23 = 0
    · exact h2
    · rw [if_pos h2] at h; exact h
  rw [if_neg (by simp [h1])] at h
  have h3 : ¬ b.size < numQ b p + numV b p := fun k => by rw [if_pos k] at h; exact absurd h (by decide)
  obtain ⟨_, _, h4, h5⟩ := num_parts b p 2048 hp h1
  refine ⟨by omega, by omega, ?_⟩
  unfold textV
  simp; omega
set_option maxHeartbeats 1000000 in
set_option maxRecDepth 8000 in
theorem unframe_any (b : ByteArray) (hb : b.size ≤ 200000) (w : World) : Calls Try.prog 65 #[.string b] w (UPost w (Wl.unframe b)) := by
  obtain ⟨i0, hi0, hz0, hz1, hz2⟩ := info_parts D.Try.infoS
  obtain ⟨U, hU⟩ : ∃ U, Wl.unframe b = U := ⟨_, rfl⟩
  have HU0 : Hid (U = (Wl.unf b b.size 0).map (([] : List ByteArray) ++ ·)) := hide (by rw [← hU]; unfold Wl.unframe; cases Wl.unf b b.size 0 <;> simp)
  rw [hU]
  clear hU
  go_enter Try.func65, Try.ntmps65
  go_wp2_with fail
  refine (read_any b w).mono ?_
  rintro e w1 ⟨rfl, hr1, hb1⟩
  have HR1 := hide hr1
  have HB1 := hide hb1
  have hl1 : w.heap.size < w1.heap.size := lt_of_block hr1
  clear hr1 hb1
  go_wp2_with fail
  go_loopw [4] (fun s wr => ∃ (p n : Nat) (acc : List ByteArray) (v : Value), v = s ∧ p ≤ b.size ∧ acc.length ≤ p ∧ slLen v = acc.length ∧ b.size - p ≤ n ∧ Hid (wr.ownsRow (w.heap.size + 1) 9 1 v acc.length (acc.map .string)) ∧ Hid (Rd wr w.heap.size b (p : Int) 0) ∧ Hid (Below w.heap.size w wr) ∧ Hid (U = (Wl.unf b n p).map (acc ++ ·))) (fun s _ => b.size - slLen s)
  case atStart => exact ⟨0, b.size, [], _, rfl, Nat.zero_le _, Nat.le_refl _, rfl, Nat.le_refl _, hide (World.ownsRow_nil _ _ _ _), HR1, HB1, HU0⟩
  case round =>
    obtain ⟨p, n, acc, v, rfl, hp, hap, hsl, hn, HO, HR, HB, HU⟩ := hrel
    have HL := hide (left_any HR.out (by omega) (by omega) (by omega))
    have HA : Hid (acc.length ≤ p ∧ slLen v = acc.length ∧ b.size - p ≤ n ∧ p ≤ b.size ∧ b.size ≤ 200000) := hide ⟨hap, hsl, hn, hp, hb⟩
    clear HU0 HR1 HB1 hap hsl hn hp
    go_wp2_with fail
    refine HL.out.mono ?_
    rintro e w2 ⟨rfl, nd, rfl⟩
    by_cases hpe : b.size ≤ p
    · have hpi : ¬ 0 < (b.size : Int) - (p : Int) := by omega
      have HP : Hid (U = some acc) := hide (by rw [HU.out, unf_end hpe]; simp)
      have HO2 : Hid ((wr.drewN nd).ownsRow w.heap.size 9 1 v acc.length (acc.map .string)) := hide (D.own_base HO.out (by omega))
      have HB2 : Hid (Below w.heap.size w (wr.drewN nd)) := hide (HB.out.trans ((drewN_below _ nd).mono HB.out.size))
      generalize (b.size : Int) - (p : Int) = x at *
      clear HU HO HB hpe hb HL
      generalize wr.drewN nd = wd at *
      go_wp2_with fail
      go_ret2
      exact ⟨HB2.out, by rw [HP.out]; exact ⟨_, rfl, HO2.out⟩⟩
    · have hpi : 0 < (b.size : Int) - (p : Int) := by omega
      have HR2 : Hid (Rd (wr.drewN nd) w.heap.size b (p : Int) 0) := HR
      have HB2 : Hid (Below w.heap.size w (wr.drewN nd)) := hide (HB.out.trans ((drewN_below _ nd).mono HB.out.size))
      have HO2 : Hid ((wr.drewN nd).ownsRow (w.heap.size + 1) 9 1 v acc.length (acc.map .string)) := HO
      clear HR HB HO HL
      generalize wr.drewN nd = wd at *
      have HT := hide (rtext_any (most := 2048) (by decide) HR2.out HA.out.2.2.2.1 (by omega))
      go_wp2_with fail
      refine HT.out.mono ?_
      intro e w3 hF
      have HB3 : Hid (Below w.heap.size w w3) := hide (HB2.out.grown hF.grown (by have := HB2.out.size; omega) (fun k hk => by injection hk with hk; omega))
      have HO3 : Hid (w3.ownsRow (w.heap.size + 1) 9 1 v acc.length (acc.map .string)) := hide (D.own_keep HO2.out fun k hk => hF.grown.block k (own_lo HO2.out hk).2 (fun h => by injection h with h; have := (own_lo HO2.out hk).1; omega))
      by_cases hk : textK b p 2048 = 0 ∧ (textV b p).size ≠ 0
      · obtain ⟨rfl, hR3⟩ := hF.ok hk.1
        obtain ⟨n', rfl⟩ : ∃ n', n = n' + 1 := ⟨n - 1, by have := HA.out; omega⟩
        obtain ⟨k1, k2, k3⟩ := textK_next HA.out.2.2.2.1 hk.1
        have HU3 : Hid (U = (Wl.unf b n' (numQ b p + numV b p)).map ((acc ++ [textV b p]) ++ ·)) := hide (by
          rw [HU.out, unf_yes hpe hk, Option.map_map]; congr 1; funext x; simp)
        have b0 : ((textV b p).toList == []) = false := beq_eq_false_iff_ne.2 (fun h => hk.2 (by rw [show textV b p = ⟨#[]⟩ from toList_inj (h.trans (by rw [ByteArray.toList_eq]))]; rfl))
        have HR3 := hide hR3
        generalize hP : numQ b p + numV b p = P at *
        generalize textV b p = S at *
        clear hF hk HU HT HR2 HB2 HO2 hR3
        have HKK : Hid (p < P ∧ P ≤ b.size) := hide ⟨k1, k2⟩
        clear k1 k2 k3 hP
        go_wp2_with (at_builtin; refine wpList_append_own _ rfl _ _ 30 rfl (w.heap.size + 1) 9 i0 (.string ByteArray.empty) 1 16 Try.underlying30 hi0 hz0 hz1 hz2 rfl (by decide) v acc.length _ rfl (HO3.out.alloc _) ⟨w3.heap.size, 0, none⟩ 1 1 [.string S] rfl rfl (one_new _ _ _) (by intro u hu; simp at hu; subst hu; rfl) (by have := HA.out; unfold maxLen; omega) (by have := HA.out; omega) (by rw [World.size_alloc]; have := HB3.out.size; omega) ?_; intro va wa howna hgrowa hnila)
        have hA := HA.out
        have hK := HKK.out
        have hl3 : w.heap.size < w3.heap.size := lt_of_block HR3.out
        have hva := own_len howna
        refine ⟨⟨P, n', acc ++ [S], va, rfl, hK.2, by rw [List.length_append, List.length_singleton]; omega, by rw [hva, List.length_append, List.length_singleton], by omega, hide (by rw [List.length_append, List.length_singleton, List.map_append]; exact howna), hide ?_, hide ?_, HU3⟩, by rw [hva]; omega⟩
        · exact ((hgrowa.block _ (by rw [World.size_alloc]; omega) (fun h => by have := (own_lo HO3.out h.symm).1; omega)).trans (Below.heap_alloc _ _ _ hl3)).trans HR3.out
        · exact (HB3.out.alloc (by omega) _).grown hgrowa (by rw [World.size_alloc]; omega) (fun k hk => by have := (own_lo HO3.out hk).1; omega)
      · have HP : Hid (U = none) := hide (by rw [HU.out, unf_no hpe hk]; rfl)
        have he : e = .returned (.string ⟨#[]⟩) := by
          by_cases h0 : textK b p 2048 = 0
          · have h1 : (textV b p).size = 0 := Classical.not_not.mp fun h => hk ⟨h0, h⟩
            rw [(hF.ok h0).1, size_zero h1]
          · exact (hF.no h0).1
        subst he
        clear hF hk HU HT HR2 HB2 HO2 HO3
        go_wp2_with fail
        go_ret2
        exact ⟨HB3.out, by rw [HP.out]; rfl⟩
end Go.Proofs.Ytojghjgbnnkldaa
end

section
namespace Go.Proofs.Ytojghjgbnnkldaa
open Go.RowKit Go.Shelf
open Wl (Hd WS Log)

theorem box_al {w : World} {X : Nat} {cs : Array Value} {t : TypeId} (h : w.heap[X]? = some (.cells cs t (0, 0))) (o : Obj) : (w.alloc o).heap[X]? = some (.cells cs t (0, 0)) := (Below.heap_alloc _ _ _ (lt_of_block h)).trans h
theorem box_bl {w w' : World} {X : Nat} {cs : Array Value} {t : TypeId} (h : w.heap[X]? = some (.cells cs t (0, 0))) (hb : Below w.heap.size w w') : w'.heap[X]? = some (.cells cs t (0, 0)) := (hb.block _ (lt_of_block h)).trans h
theorem box_cells {w : World} {X : Nat} {a b c d : Value} {t : TypeId} (h : w.heap[X]? = some (.cells #[a, b, c, d] t (0, 0))) : w.cell? ⟨X, 0, none⟩ = some a ∧ w.cell? ⟨X, 1, none⟩ = some b ∧ w.cell? ⟨X, 2, none⟩ = some c ∧ w.cell? ⟨X, 3, none⟩ = some d := by
  refine ⟨?_, ?_, ?_, ?_⟩ <;> (unfold World.cell?; rw [h]; rfl)
set_option maxHeartbeats 2000000 in
set_option maxRecDepth 8000 in
theorem writeHead_any {base : Nat} {w : World} {b : Nat} {F : Nat → Prop} {d : D.DS} (h : D.Dk base w b F d) (hd : Hd) (h0 : hd.num < 18446744073709551616) (h1 : hd.half < 256) (h2 : hd.sn < 4294967296) (h3 : hd.lg < 4294967296) (hR : (d.R.length + 1) * 24 ≤ 140737488355328) :
    Calls Try.prog 28 #[.pointer (some ⟨b, 0, none⟩), .agg (hdC hd)] w fun e w' => e = .returned (.int .i64 (d.write ((hd.num % 2 : Nat) : Int) (Wl.headB hd)).1) ∧ ∃ F', D.Dk base w' b F' (d.write ((hd.num % 2 : Nat) : Int) (Wl.headB hd)).2 ∧ D.Mv F F' w w' := by
  have HD := hide h
  have hFX : ¬ F w.heap.size := fun k => absurd (h.ftlt _ k).2 (Nat.lt_irrefl _)
  have HBy := hide (fun W => bytes_any hd h0 h1 h2 h3 W)
  obtain ⟨num, half, sn, lg⟩ := hd
  clear h h0 h1 h2 h3
  have hst : (w.alloc (.cells (hdC ⟨num, half, sn, lg⟩) 58)).heap[w.heap.size]? = some (.cells #[.int .u64 (num : Int), .int .u8 (half : Int), .int .i64 (sn : Int), .int .i64 (lg : Int)] 58 (0, 0)) := heap_alloc_new w _
  have HB0 : Hid (Below w.heap.size w (w.alloc (.cells (hdC ⟨num, half, sn, lg⟩) 58)).drew) := hide ((below_alloc w _).trans ⟨rfl, rfl, rfl, Nat.le_refl _, fun _ _ => rfl⟩)
  simp only [hdC] at *
  go_enter Try.func28, Try.ntmps28
  go_wp2_with fail
  refine wp_region_held_drew (S := fun w' => w'.heap[w.heap.size]? = some (.cells #[.int .u64 (num : Int), .int .u8 (half : Int), .int .i64 (sn : Int), .int .i64 (lg : Int)] 58 (0, 0))) (by kernel_rfl) (hst) (fun hHeld => ?_)
  refine wpAnyH_take (i := 0) (v := .pointer (some ⟨b, 0, none⟩)) rfl (by kernel_rfl) (by kernel_rfl) (by kernel_rfl) (fun _ _ _ h => h) (Or.inl ⟨by rfl, fun w1 hSw => by clear hHeld; obtain ⟨c0, c1, c2, c3⟩ := box_cells hSw; go_simp⟩) hHeld ?_
  simp only [Act.put, List.setIfInBounds_toArray]
  refine wpAnyH_take (i := 1) (v := .agg #[.int .u64 (num : Int), .int .u8 (half : Int), .int .i64 (sn : Int), .int .i64 (lg : Int)]) rfl (by kernel_rfl) (by kernel_rfl) (by kernel_rfl) (fun _ _ _ h => h) (Or.inl ⟨by rfl, fun w1 hSw => by clear hHeld; obtain ⟨c0, c1, c2, c3⟩ := box_cells hSw; go_simp⟩) hHeld ?_
  try simp only [Act.put]
  refine wpAnyH_take (i := 3) (v := .agg #[.int .u64 (num : Int), .int .u8 (half : Int), .int .i64 (sn : Int), .int .i64 (lg : Int)]) rfl (by kernel_rfl) (by kernel_rfl) (by kernel_rfl) (fun _ _ _ h => h) (Or.inl ⟨by rfl, fun w1 hSw => by clear hHeld; obtain ⟨c0, c1, c2, c3⟩ := box_cells hSw; go_simp⟩) hHeld ?_
  try simp only [Act.put]
  refine wpAnyH_ready (rs := [2]) (by kernel_rfl) (by simp) ?_
  refine AllReadyH.cons rfl (fun K hK => ?_) AllReadyH.nil
  go_simp
  refine (sector_any ⟨num, half, sn, lg⟩ _).mono ?_
  rintro e w0a ⟨rfl, rfl⟩
  have HB1 := hide (HB0.out.alloc (HB0.out.size) (.cells (hdC ⟨num, half, sn, lg⟩) 58))
  refine hK.out _ _ (box_al hHeld _) (fun hHeld => ?_)
  clear hK K
  refine wpAnyH_ready (rs := [4]) (by kernel_rfl) (by simp) ?_
  refine AllReadyH.cons rfl (fun K hK => ?_) AllReadyH.nil
  go_simp
  refine (HBy.out _).mono ?_
  rintro e w1a ⟨rfl, hb1⟩
  have HB2 := hide (HB1.out.trans (hb1.mono HB1.out.size))
  have hs1 := box_bl hHeld hb1
  clear hb1
  refine hK.out _ _ (hs1) (fun hHeld => ?_)
  clear hK K
  refine wpAnyH_ready (rs := [5]) (by kernel_rfl) (by simp) ?_
  refine AllReadyH.cons rfl (fun K hK => ?_) AllReadyH.nil
  go_simp
  refine (D.write_any (HD.out.below HB2.out) _ _ hR).mono ?_
  rintro e w9 ⟨rfl, F', hD', hM'⟩
  have HQ := hide hD'
  have HQM := hide ((D.Mv.of_below (F := F) HB2.out).trans hM')
  have hs2 := (hM'.block _ (lt_of_block hHeld) hFX).trans hHeld
  clear hD' hM'
  refine hK.out _ _ (hs2) (fun hHeld => ?_)
  clear hK K
  refine wpAnyH_ready (rs := [6]) (by kernel_rfl) (by simp) ?_
  refine AllReadyH.cons rfl (fun K hK => ?_) AllReadyH.nil
  go_simp
  refine hK.out _ _ (hHeld) (fun hHeld => ?_)
  clear hK K
  refine wpAnyH_done (by kernel_rfl) ?_ _
  clear hHeld
  go_wp2_with fail
  go_ret
  exact ⟨rfl, F', HQ.out, HQM.out⟩
end Go.Proofs.Ytojghjgbnnkldaa
end

section
namespace Go.Proofs.Ytojghjgbnnkldaa
open Go.RowKit Go.Shelf
open Wl (Hd WS Log)

def zeroLog : Array Value := #[.int .u64 0, .int .u8 0, .int .i64 0, .int .i64 0, .string ⟨#[]⟩, .slice none 0 0]
def logC (h : Hd) (s : ByteArray) (v : Value) : Array Value := #[.int .u64 (h.num : Int), .int .u8 (h.half : Int), .int .i64 (h.sn : Int), .int .i64 (h.lg : Int), .string s, v]
def LPost (w : World) (x : Option Log) (e : Ending) (w' : World) : Prop :=
  Below w.heap.size w w' ∧ match x with
    | some L => ∃ v, e = .returned (.tuple #[.agg (logC L.h L.s v), .bool true]) ∧ w'.ownsRow w.heap.size 9 1 v L.l.length (L.l.map .string)
    | none => e = .returned (.tuple #[.agg zeroLog, .bool false])
theorem zbox {w0 w : World} {X : Nat} {cs : Array Value} {t : TypeId} (h : w0.heap[X]? = some (.cells cs t (0, 0))) (hb : Below w0.heap.size w0 w) : w.heap[X]? = some (.cells cs t (0, 0)) := (hb.block _ (lt_of_block h)).trans h
theorem log_cells {w : World} {X : Nat} {a b c d e f : Value} {t : TypeId} (h : w.heap[X]? = some (.cells #[a, b, c, d, e, f] t (0, 0))) : w.cell? ⟨X, 0, none⟩ = some a ∧ w.cell? ⟨X, 1, none⟩ = some b ∧ w.cell? ⟨X, 2, none⟩ = some c ∧ w.cell? ⟨X, 3, none⟩ = some d ∧ w.cell? ⟨X, 4, none⟩ = some e ∧ w.cell? ⟨X, 5, none⟩ = some f ∧ ∀ k, w.frozen? ⟨X, k, none⟩ = false := by
  refine ⟨?_, ?_, ?_, ?_, ?_, ?_, ?_⟩
  all_goals first | (unfold World.cell?; rw [h]; rfl) | (intro k; unfold World.frozen?; rw [h]; simp)
theorem parse_lt (s : ByteArray) : (Wl.parse s).num < 18446744073709551616 ∧ (Wl.parse s).half < 256 ∧ (Wl.parse s).sn < 4294967296 ∧ (Wl.parse s).lg < 4294967296 := by
  have h1 := bitsV_lt s 0
  have h2 := bitsV_lt (s.extract 9 s.size) 0
  refine ⟨h1, UInt8.toNat_lt _, ?_, ?_⟩
  · show bitsV (s.extract 9 s.size) 0 / 4294967296 < _; omega
  · show bitsV (s.extract 9 s.size) 0 % 4294967296 < _; omega
theorem logOf_not {S : List ByteArray} {k : Nat} (h : ¬ Wl.Front S k (Wl.parse (S.getD k ByteArray.empty))) : Wl.logOf S k = none := if_neg h
theorem logOf_yes {S : List ByteArray} {k : Nat} (h : Wl.Front S k (Wl.parse (S.getD k ByteArray.empty))) : Wl.logOf S k = (Wl.unframe ⟨((Wl.stands S (Wl.parse (S.getD k ByteArray.empty))).drop (Wl.parse (S.getD k ByteArray.empty)).sn).toArray⟩).map fun l => ⟨Wl.parse (S.getD k ByteArray.empty), ⟨((Wl.stands S (Wl.parse (S.getD k ByteArray.empty))).take (Wl.parse (S.getD k ByteArray.empty)).sn).toArray⟩, l⟩ := if_pos h
end Go.Proofs.Ytojghjgbnnkldaa
end

section
namespace Go.Proofs.Ytojghjgbnnkldaa
open Go.RowKit Go.Shelf
open Wl (Hd WS Log)

set_option maxHeartbeats 1000000 in
set_option maxRecDepth 8000 in
theorem logOf_A {base : Nat} {w : World} {b : Nat} {F : Nat → Prop} {d : D.DS} (h : D.Dk base w b F d) (hd : d.dead = false) (hfit : Wl.Fits d.S.length) (k : Nat) (hk : k < 2) (hm : ¬ Wl.MayBe (Wl.parse (d.S.getD k ByteArray.empty)) (Wl.hb d.S.length)) :
    Calls Try.prog 47 #[.pointer (some ⟨b, 0, none⟩), .int .i64 (k : Int)] w (LPost w (Wl.logOf d.S k)) := by
  have hlen : 4 ≤ d.S.length := by obtain ⟨h1, _, h2⟩ := hfit; omega
  have hrd : d.read (k : Int) = (d.S.getD k ByteArray.empty, 0) := by unfold D.DS.read; rw [if_neg (by simp [hd]), if_neg (by omega)]; rfl
  have hs8 : (d.S.getD k ByteArray.empty).size = 128 := by
    rw [List.getD_eq_getElem?_getD, List.getElem?_eq_getElem (by omega)]; exact h.ok.s128.get _
  have HRd := hide (D.read_any (h.alloc (.cells zeroLog 60)) (k : Int))
  rw [hrd] at HRd
  have HD := hide h
  have HHb : Hid (∀ W : World, Below (w.alloc (.cells zeroLog 60)).heap.size (w.alloc (.cells zeroLog 60)) W → Calls Try.prog 35 #[.pointer (some ⟨b, 0, none⟩)] W fun e w' => e = .returned (.int .i64 (Wl.hb d.S.length : Int)) ∧ w' = W) := hide fun W hW => halfBytes_any ((HD.out.alloc _).below hW)
  have HNo := hide (logOf_not (S := d.S) (k := k))
  have HYe := hide (logOf_yes (S := d.S) (k := k))
  have HFr : Hid (Wl.Front d.S k (Wl.parse (d.S.getD k ByteArray.empty)) ↔ Wl.MayBe (Wl.parse (d.S.getD k ByteArray.empty)) (Wl.hb d.S.length) ∧ (Wl.parse (d.S.getD k ByteArray.empty)).num % 2 = k ∧ Wl.headB (Wl.parse (d.S.getD k ByteArray.empty)) = d.S.getD k ByteArray.empty) := hide Iff.rfl
  obtain ⟨X, hX⟩ : ∃ X, Wl.logOf d.S k = X := ⟨_, rfl⟩
  rw [hX] at HNo HYe ⊢
  clear h hX hrd
  have HPa := hide (fun W => parseHead_any (d.S.getD k ByteArray.empty) hs8 W)
  have HLt := hide (parse_lt (d.S.getD k ByteArray.empty))
  have HU := hide hfit
  generalize d.S.getD k ByteArray.empty = s at *
  have hlt := HLt.out
  have HMb := hide (fun W => mayBe_any (Wl.parse s) hlt.2.2.1 hlt.2.2.2 (Wl.hb d.S.length) W)
  have HBy := hide (fun W => bytes_any (Wl.parse s) hlt.1 hlt.2.1 hlt.2.2.1 hlt.2.2.2 W)
  have HUs := hide (fun W => used_any (Wl.parse s) (Nat.le_of_lt hlt.2.2.1) (Nat.le_of_lt hlt.2.2.2) W)
  generalize Wl.parse s = H at *
  obtain ⟨num, half, sn, lg⟩ := H
  have HZ : Hid ((w.alloc (.cells zeroLog 60)).heap[w.heap.size]? = some (.cells #[.int .u64 0, .int .u8 0, .int .i64 0, .int .i64 0, .string ⟨#[]⟩, .slice none 0 0] 60 (0, 0))) := hide (heap_alloc_new w _)
  clear hlt
  simp only [hdC] at *
  go_enter Try.func47, Try.ntmps47
  go_wp2_with fail
  refine HRd.out.mono ?_
  rintro e w' ⟨rfl, rfl⟩
  go_wp2_with fail
  refine (HPa.out _).mono ?_
  rintro e w1 ⟨rfl, hb1⟩
  have HB0 : Hid (Below (w.alloc (.cells zeroLog 60)).heap.size (w.alloc (.cells zeroLog 60)) (w1.alloc (.cells #[.int .u64 (num : Int), .int .u8 (half : Int), .int .i64 (sn : Int), .int .i64 (lg : Int)] 58)).drew) := hide ((hb1.alloc hb1.size _).trans ⟨rfl, rfl, rfl, Nat.le_refl _, fun _ _ => rfl⟩)
  obtain ⟨Y, hY⟩ : ∃ Y, w1.heap.size = Y := ⟨_, rfl⟩
  have hst : (w1.alloc (.cells #[.int .u64 (num : Int), .int .u8 (half : Int), .int .i64 (sn : Int), .int .i64 (lg : Int)] 58)).heap[Y]? = some (.cells #[.int .u64 (num : Int), .int .u8 (half : Int), .int .i64 (sn : Int), .int .i64 (lg : Int)] 58 (0, 0)) := by rw [← hY]; exact heap_alloc_new w1 _
  have HW1 := hide hb1.size
  clear hb1 HRd HPa
  have HN : Hid (X = none) := hide (HNo.out fun h => hm (HFr.out.mp h).1)
  rw [decide_eq_false hm] at HMb
  clear hm HNo HYe HFr
  go_wp2_with fail
  refine wp_region_held_drew (S := fun w' => w'.heap[Y]? = some (.cells #[.int .u64 (num : Int), .int .u8 (half : Int), .int .i64 (sn : Int), .int .i64 (lg : Int)] 58 (0, 0))) (by kernel_rfl) (hst) (fun hHeld => ?_)
  refine wpAnyH_take (i := 0) (v := .agg #[.int .u64 (num : Int), .int .u8 (half : Int), .int .i64 (sn : Int), .int .i64 (lg : Int)]) rfl (by kernel_rfl) (by kernel_rfl) (by kernel_rfl) (fun _ _ _ h => h) (Or.inl ⟨by rfl, fun w1 hSw => by clear hHeld; obtain ⟨c0, c1, c2, c3⟩ := box_cells hSw; go_simp⟩) hHeld ?_
  simp only [Act.put, List.setIfInBounds_toArray]
  refine wpAnyH_take (i := 1) (v := .pointer (some ⟨b, 0, none⟩)) rfl (by kernel_rfl) (by kernel_rfl) (by kernel_rfl) (fun _ _ _ h => h) (Or.inl ⟨by rfl, fun w1 hSw => by clear hHeld; obtain ⟨c0, c1, c2, c3⟩ := box_cells hSw; go_simp⟩) hHeld ?_
  try simp only [Act.put]
  refine wpAnyH_ready (rs := [2]) (by kernel_rfl) (by simp) ?_
  refine AllReadyH.cons rfl (fun K hK => ?_) AllReadyH.nil
  go_simp
  refine (HHb.out _ HB0.out).mono ?_
  rintro e w0a ⟨rfl, rfl⟩
  have HB1 := HB0
  refine hK.out _ _ (hHeld) (fun hHeld => ?_)
  clear hK K
  refine wpAnyH_ready (rs := [3]) (by kernel_rfl) (by simp) ?_
  refine AllReadyH.cons rfl (fun K hK => ?_) AllReadyH.nil
  go_simp
  refine (HMb.out _).mono ?_
  rintro e w1a ⟨rfl, hb1⟩
  have HB2 := hide (HB1.out.trans (hb1.mono HB1.out.size))
  have hs1 := box_bl hHeld hb1
  clear hb1
  refine hK.out _ _ (hs1) (fun hHeld => ?_)
  clear hK K
  refine wpAnyH_take (i := 4) (v := .bool true) rfl (by kernel_rfl) (by kernel_rfl) (by kernel_rfl) (fun _ _ _ h => h) (Or.inl ⟨by rfl, fun w1 hSw => by clear hHeld; obtain ⟨c0, c1, c2, c3⟩ := box_cells hSw; go_simp⟩) hHeld ?_
  try simp only [Act.put]
  refine wpAnyH_take (i := 5) (v := .bool true) rfl (by kernel_rfl) (by kernel_rfl) (by kernel_rfl) (fun _ _ _ h => h) (Or.inl ⟨by rfl, fun w1 hSw => by clear hHeld; obtain ⟨c0, c1, c2, c3⟩ := box_cells hSw; go_simp⟩) hHeld ?_
  try simp only [Act.put]
  refine wpAnyH_take (i := 6) (v := undef) rfl (by kernel_rfl) (by kernel_rfl) (by kernel_rfl) (fun _ _ _ h => h) (Or.inr ⟨by kernel_rfl, rfl⟩) hHeld ?_
  try simp only [Act.put]
  refine wpAnyH_take (i := 7) (v := undef) rfl (by kernel_rfl) (by kernel_rfl) (by kernel_rfl) (fun _ _ _ h => h) (Or.inr ⟨by kernel_rfl, rfl⟩) hHeld ?_
  try simp only [Act.put]
  refine wpAnyH_take (i := 8) (v := undef) rfl (by kernel_rfl) (by kernel_rfl) (by kernel_rfl) (fun _ _ _ h => h) (Or.inr ⟨by kernel_rfl, rfl⟩) hHeld ?_
  try simp only [Act.put]
  refine wpAnyH_take (i := 9) (v := undef) rfl (by kernel_rfl) (by kernel_rfl) (by kernel_rfl) (fun _ _ _ h => h) (Or.inr ⟨by kernel_rfl, rfl⟩) hHeld ?_
  try simp only [Act.put]
  refine wpAnyH_take (i := 10) (v := .bool true) rfl (by kernel_rfl) (by kernel_rfl) (by kernel_rfl) (fun _ _ _ h => h) (Or.inl ⟨by rfl, fun w1 hSw => by clear hHeld; obtain ⟨c0, c1, c2, c3⟩ := box_cells hSw; go_simp⟩) hHeld ?_
  try simp only [Act.put]
  refine wpAnyH_take (i := 11) (v := .bool true) rfl (by kernel_rfl) (by kernel_rfl) (by kernel_rfl) (fun _ _ _ h => h) (Or.inl ⟨by rfl, fun w1 hSw => by clear hHeld; obtain ⟨c0, c1, c2, c3⟩ := box_cells hSw; go_simp⟩) hHeld ?_
  try simp only [Act.put]
  refine wpAnyH_take (i := 12) (v := undef) rfl (by kernel_rfl) (by kernel_rfl) (by kernel_rfl) (fun _ _ _ h => h) (Or.inr ⟨by kernel_rfl, rfl⟩) hHeld ?_
  try simp only [Act.put]
  refine wpAnyH_take (i := 13) (v := undef) rfl (by kernel_rfl) (by kernel_rfl) (by kernel_rfl) (fun _ _ _ h => h) (Or.inr ⟨by kernel_rfl, rfl⟩) hHeld ?_
  try simp only [Act.put]
  refine wpAnyH_take (i := 14) (v := undef) rfl (by kernel_rfl) (by kernel_rfl) (by kernel_rfl) (fun _ _ _ h => h) (Or.inr ⟨by kernel_rfl, rfl⟩) hHeld ?_
  try simp only [Act.put]
  refine wpAnyH_take (i := 15) (v := undef) rfl (by kernel_rfl) (by kernel_rfl) (by kernel_rfl) (fun _ _ _ h => h) (Or.inr ⟨by kernel_rfl, rfl⟩) hHeld ?_
  try simp only [Act.put]
  refine wpAnyH_ready (rs := [16]) (by kernel_rfl) (by simp) ?_
  refine AllReadyH.cons rfl (fun K hK => ?_) AllReadyH.nil
  go_simp
  have HB3 := HB2
  refine hK.out _ _ (hHeld) (fun hHeld => ?_)
  clear hK K
  refine wpAnyH_done (by kernel_rfl) ?_ _
  clear hHeld
  have HZd := hide (zbox HZ.out HB3.out)
  obtain ⟨z0, z1, z2, z3, z4, z5, zz⟩ := log_cells HZd.out
  have HBe : Hid (Below w.heap.size w _) := hide ((below_alloc w _).trans (HB3.out.mono (by simp)))
  clear HZd
  go_wp2_with fail
  exact bodyPost_ret (v := .tuple #[.agg zeroLog, .bool false]) (by simp [results, Try.results47, go_sem, z0, z1, z2, z3, z4, z5, zeroLog]) rfl ⟨((((((HBe.out.setCell (Nat.le_refl _) _).setCell (Nat.le_refl _) _).setCell (Nat.le_refl _) _).setCell (Nat.le_refl _) _).setCell (Nat.le_refl _) _).setCell (Nat.le_refl _) _), by rw [HN.out]⟩
end Go.Proofs.Ytojghjgbnnkldaa
end

section
namespace Go.Proofs.Ytojghjgbnnkldaa
open Go.RowKit Go.Shelf
open Wl (Hd WS Log)

set_option maxHeartbeats 1000000 in
set_option maxRecDepth 8000 in
theorem logOf_B {base : Nat} {w : World} {b : Nat} {F : Nat → Prop} {d : D.DS} (h : D.Dk base w b F d) (hd : d.dead = false) (hfit : Wl.Fits d.S.length) (k : Nat) (hk : k < 2) (hm : Wl.MayBe (Wl.parse (d.S.getD k ByteArray.empty)) (Wl.hb d.S.length)) (hsec : ¬ (Wl.parse (d.S.getD k ByteArray.empty)).num % 2 = k) :
    Calls Try.prog 47 #[.pointer (some ⟨b, 0, none⟩), .int .i64 (k : Int)] w (LPost w (Wl.logOf d.S k)) := by
  have hlen : 4 ≤ d.S.length := by obtain ⟨h1, _, h2⟩ := hfit; omega
  have hrd : d.read (k : Int) = (d.S.getD k ByteArray.empty, 0) := by unfold D.DS.read; rw [if_neg (by simp [hd]), if_neg (by omega)]; rfl
  have hs8 : (d.S.getD k ByteArray.empty).size = 128 := by
    rw [List.getD_eq_getElem?_getD, List.getElem?_eq_getElem (by omega)]; exact h.ok.s128.get _
  have HRd := hide (D.read_any (h.alloc (.cells zeroLog 60)) (k : Int))
  rw [hrd] at HRd
  have HD := hide h
  have HHb : Hid (∀ W : World, Below (w.alloc (.cells zeroLog 60)).heap.size (w.alloc (.cells zeroLog 60)) W → Calls Try.prog 35 #[.pointer (some ⟨b, 0, none⟩)] W fun e w' => e = .returned (.int .i64 (Wl.hb d.S.length : Int)) ∧ w' = W) := hide fun W hW => halfBytes_any ((HD.out.alloc _).below hW)
  have HNo := hide (logOf_not (S := d.S) (k := k))
  have HYe := hide (logOf_yes (S := d.S) (k := k))
  have HFr : Hid (Wl.Front d.S k (Wl.parse (d.S.getD k ByteArray.empty)) ↔ Wl.MayBe (Wl.parse (d.S.getD k ByteArray.empty)) (Wl.hb d.S.length) ∧ (Wl.parse (d.S.getD k ByteArray.empty)).num % 2 = k ∧ Wl.headB (Wl.parse (d.S.getD k ByteArray.empty)) = d.S.getD k ByteArray.empty) := hide Iff.rfl
  obtain ⟨X, hX⟩ : ∃ X, Wl.logOf d.S k = X := ⟨_, rfl⟩
  rw [hX] at HNo HYe ⊢
  clear h hX hrd
  have HPa := hide (fun W => parseHead_any (d.S.getD k ByteArray.empty) hs8 W)
  have HLt := hide (parse_lt (d.S.getD k ByteArray.empty))
  have HU := hide hfit
  generalize d.S.getD k ByteArray.empty = s at *
  have hlt := HLt.out
  have HMb := hide (fun W => mayBe_any (Wl.parse s) hlt.2.2.1 hlt.2.2.2 (Wl.hb d.S.length) W)
  have HBy := hide (fun W => bytes_any (Wl.parse s) hlt.1 hlt.2.1 hlt.2.2.1 hlt.2.2.2 W)
  have HUs := hide (fun W => used_any (Wl.parse s) (Nat.le_of_lt hlt.2.2.1) (Nat.le_of_lt hlt.2.2.2) W)
  generalize Wl.parse s = H at *
  obtain ⟨num, half, sn, lg⟩ := H
  have HZ : Hid ((w.alloc (.cells zeroLog 60)).heap[w.heap.size]? = some (.cells #[.int .u64 0, .int .u8 0, .int .i64 0, .int .i64 0, .string ⟨#[]⟩, .slice none 0 0] 60 (0, 0))) := hide (heap_alloc_new w _)
  clear hlt
  simp only [hdC] at *
  go_enter Try.func47, Try.ntmps47
  go_wp2_with fail
  refine HRd.out.mono ?_
  rintro e w' ⟨rfl, rfl⟩
  go_wp2_with fail
  refine (HPa.out _).mono ?_
  rintro e w1 ⟨rfl, hb1⟩
  have HB0 : Hid (Below (w.alloc (.cells zeroLog 60)).heap.size (w.alloc (.cells zeroLog 60)) (w1.alloc (.cells #[.int .u64 (num : Int), .int .u8 (half : Int), .int .i64 (sn : Int), .int .i64 (lg : Int)] 58)).drew) := hide ((hb1.alloc hb1.size _).trans ⟨rfl, rfl, rfl, Nat.le_refl _, fun _ _ => rfl⟩)
  obtain ⟨Y, hY⟩ : ∃ Y, w1.heap.size = Y := ⟨_, rfl⟩
  have hst : (w1.alloc (.cells #[.int .u64 (num : Int), .int .u8 (half : Int), .int .i64 (sn : Int), .int .i64 (lg : Int)] 58)).heap[Y]? = some (.cells #[.int .u64 (num : Int), .int .u8 (half : Int), .int .i64 (sn : Int), .int .i64 (lg : Int)] 58 (0, 0)) := by rw [← hY]; exact heap_alloc_new w1 _
  have HW1 := hide hb1.size
  clear hb1 HRd HPa
  rw [decide_eq_true hm] at HMb
  have HN : Hid (X = none) := hide (HNo.out fun h => hsec (HFr.out.mp h).2.1)
  have hne : (((num % 2 : Nat) : Int) != (k : Int)) = true := by simp; omega
  have hne2 : ((num : Int) % 2 != (k : Int)) = true := by simp; omega
  clear hm HNo HYe HFr hsec
  go_wp2_with fail
  refine wp_region_held_drew (S := fun w' => w'.heap[Y]? = some (.cells #[.int .u64 (num : Int), .int .u8 (half : Int), .int .i64 (sn : Int), .int .i64 (lg : Int)] 58 (0, 0))) (by kernel_rfl) (hst) (fun hHeld => ?_)
  refine wpAnyH_take (i := 0) (v := .agg #[.int .u64 (num : Int), .int .u8 (half : Int), .int .i64 (sn : Int), .int .i64 (lg : Int)]) rfl (by kernel_rfl) (by kernel_rfl) (by kernel_rfl) (fun _ _ _ h => h) (Or.inl ⟨by rfl, fun w1 hSw => by clear hHeld; obtain ⟨c0, c1, c2, c3⟩ := box_cells hSw; go_simp⟩) hHeld ?_
  simp only [Act.put, List.setIfInBounds_toArray]
  refine wpAnyH_take (i := 1) (v := .pointer (some ⟨b, 0, none⟩)) rfl (by kernel_rfl) (by kernel_rfl) (by kernel_rfl) (fun _ _ _ h => h) (Or.inl ⟨by rfl, fun w1 hSw => by clear hHeld; obtain ⟨c0, c1, c2, c3⟩ := box_cells hSw; go_simp⟩) hHeld ?_
  try simp only [Act.put]
  refine wpAnyH_ready (rs := [2]) (by kernel_rfl) (by simp) ?_
  refine AllReadyH.cons rfl (fun K hK => ?_) AllReadyH.nil
  go_simp
  refine (HHb.out _ HB0.out).mono ?_
  rintro e w0a ⟨rfl, rfl⟩
  have HB1 := HB0
  refine hK.out _ _ (hHeld) (fun hHeld => ?_)
  clear hK K
  refine wpAnyH_ready (rs := [3]) (by kernel_rfl) (by simp) ?_
  refine AllReadyH.cons rfl (fun K hK => ?_) AllReadyH.nil
  go_simp
  refine (HMb.out _).mono ?_
  rintro e w1a ⟨rfl, hb1⟩
  have HB2 := hide (HB1.out.trans (hb1.mono HB1.out.size))
  have hs1 := box_bl hHeld hb1
  clear hb1
  refine hK.out _ _ (hs1) (fun hHeld => ?_)
  clear hK K
  refine wpAnyH_take (i := 4) (v := .bool false) rfl (by kernel_rfl) (by kernel_rfl) (by kernel_rfl) (fun _ _ _ h => h) (Or.inl ⟨by rfl, fun w1 hSw => by clear hHeld; obtain ⟨c0, c1, c2, c3⟩ := box_cells hSw; go_simp⟩) hHeld ?_
  try simp only [Act.put]
  refine wpAnyH_take (i := 5) (v := .bool false) rfl (by kernel_rfl) (by kernel_rfl) (by kernel_rfl) (fun _ _ _ h => h) (Or.inl ⟨by rfl, fun w1 hSw => by clear hHeld; obtain ⟨c0, c1, c2, c3⟩ := box_cells hSw; go_simp⟩) hHeld ?_
  try simp only [Act.put]
  refine wpAnyH_take (i := 6) (v := .agg #[.int .u64 (num : Int), .int .u8 (half : Int), .int .i64 (sn : Int), .int .i64 (lg : Int)]) rfl (by kernel_rfl) (by kernel_rfl) (by kernel_rfl) (fun _ _ _ h => h) (Or.inl ⟨by rfl, fun w1 hSw => by clear hHeld; obtain ⟨c0, c1, c2, c3⟩ := box_cells hSw; go_simp⟩) hHeld ?_
  try simp only [Act.put]
  refine wpAnyH_take (i := 8) (v := .int .i64 (k : Int)) rfl (by kernel_rfl) (by kernel_rfl) (by kernel_rfl) (fun _ _ _ h => h) (Or.inl ⟨by rfl, fun w1 hSw => by clear hHeld; obtain ⟨c0, c1, c2, c3⟩ := box_cells hSw; go_simp⟩) hHeld ?_
  try simp only [Act.put]
  refine wpAnyH_ready (rs := [7]) (by kernel_rfl) (by simp) ?_
  refine AllReadyH.cons rfl (fun K hK => ?_) AllReadyH.nil
  go_simp
  refine (sector_any ⟨num, half, sn, lg⟩ _).mono ?_
  rintro e w2a ⟨rfl, rfl⟩
  have HB3 := hide (HB2.out.alloc HB2.out.size (.cells (hdC ⟨num, half, sn, lg⟩) 58))
  refine hK.out _ _ (box_al hHeld _) (fun hHeld => ?_)
  clear hK K
  refine wpAnyH_ready (rs := [9]) (by kernel_rfl) (by simp) ?_
  refine AllReadyH.cons rfl (fun K hK => ?_) AllReadyH.nil
  go_simp
  have HB4 := HB3
  refine hK.out _ _ (hHeld) (fun hHeld => ?_)
  clear hK K
  refine wpAnyH_take (i := 10) (v := .bool true) rfl (by kernel_rfl) (by kernel_rfl) (by kernel_rfl) (fun _ _ _ h => h) (Or.inl ⟨by rfl, fun w1 hSw => by clear hHeld; obtain ⟨c0, c1, c2, c3⟩ := box_cells hSw; go_simp⟩) hHeld ?_
  try simp only [Act.put]
  refine wpAnyH_take (i := 11) (v := .bool true) rfl (by kernel_rfl) (by kernel_rfl) (by kernel_rfl) (fun _ _ _ h => h) (Or.inl ⟨by rfl, fun w1 hSw => by clear hHeld; obtain ⟨c0, c1, c2, c3⟩ := box_cells hSw; go_simp⟩) hHeld ?_
  try simp only [Act.put]
  refine wpAnyH_take (i := 12) (v := undef) rfl (by kernel_rfl) (by kernel_rfl) (by kernel_rfl) (fun _ _ _ h => h) (Or.inr ⟨by kernel_rfl, rfl⟩) hHeld ?_
  try simp only [Act.put]
  refine wpAnyH_take (i := 13) (v := undef) rfl (by kernel_rfl) (by kernel_rfl) (by kernel_rfl) (fun _ _ _ h => h) (Or.inr ⟨by kernel_rfl, rfl⟩) hHeld ?_
  try simp only [Act.put]
  refine wpAnyH_take (i := 14) (v := undef) rfl (by kernel_rfl) (by kernel_rfl) (by kernel_rfl) (fun _ _ _ h => h) (Or.inr ⟨by kernel_rfl, rfl⟩) hHeld ?_
  try simp only [Act.put]
  refine wpAnyH_take (i := 15) (v := undef) rfl (by kernel_rfl) (by kernel_rfl) (by kernel_rfl) (fun _ _ _ h => h) (Or.inr ⟨by kernel_rfl, rfl⟩) hHeld ?_
  try simp only [Act.put]
  refine wpAnyH_ready (rs := [16]) (by kernel_rfl) (by simp) ?_
  refine AllReadyH.cons rfl (fun K hK => ?_) AllReadyH.nil
  go_simp
  have HB5 := HB4
  refine hK.out _ _ (hHeld) (fun hHeld => ?_)
  clear hK K
  refine wpAnyH_done (by kernel_rfl) ?_ _
  clear hHeld
  have HZd := hide (zbox HZ.out HB5.out)
  obtain ⟨z0, z1, z2, z3, z4, z5, zz⟩ := log_cells HZd.out
  have HBe : Hid (Below w.heap.size w _) := hide ((below_alloc w _).trans (HB5.out.mono (by simp)))
  clear HZd
  go_wp2_with fail
  exact bodyPost_ret (v := .tuple #[.agg zeroLog, .bool false]) (by simp [results, Try.results47, go_sem, z0, z1, z2, z3, z4, z5, zeroLog]) rfl ⟨((((((HBe.out.setCell (Nat.le_refl _) _).setCell (Nat.le_refl _) _).setCell (Nat.le_refl _) _).setCell (Nat.le_refl _) _).setCell (Nat.le_refl _) _).setCell (Nat.le_refl _) _), by rw [HN.out]⟩
end Go.Proofs.Ytojghjgbnnkldaa
end

section
namespace Go.Proofs.Ytojghjgbnnkldaa
open Go.RowKit Go.Shelf
open Wl (Hd WS Log)

set_option maxHeartbeats 1000000 in
set_option maxRecDepth 8000 in
theorem logOf_C {base : Nat} {w : World} {b : Nat} {F : Nat → Prop} {d : D.DS} (h : D.Dk base w b F d) (hd : d.dead = false) (hfit : Wl.Fits d.S.length) (k : Nat) (hk : k < 2) (hm : Wl.MayBe (Wl.parse (d.S.getD k ByteArray.empty)) (Wl.hb d.S.length)) (hsec : (Wl.parse (d.S.getD k ByteArray.empty)).num % 2 = k) (hby : ¬ Wl.headB (Wl.parse (d.S.getD k ByteArray.empty)) = d.S.getD k ByteArray.empty) :
    Calls Try.prog 47 #[.pointer (some ⟨b, 0, none⟩), .int .i64 (k : Int)] w (LPost w (Wl.logOf d.S k)) := by
  have hlen : 4 ≤ d.S.length := by obtain ⟨h1, _, h2⟩ := hfit; omega
  have hrd : d.read (k : Int) = (d.S.getD k ByteArray.empty, 0) := by unfold D.DS.read; rw [if_neg (by simp [hd]), if_neg (by omega)]; rfl
  have hs8 : (d.S.getD k ByteArray.empty).size = 128 := by
    rw [List.getD_eq_getElem?_getD, List.getElem?_eq_getElem (by omega)]; exact h.ok.s128.get _
  have HRd := hide (D.read_any (h.alloc (.cells zeroLog 60)) (k : Int))
  rw [hrd] at HRd
  have HD := hide h
  have HHb : Hid (∀ W : World, Below (w.alloc (.cells zeroLog 60)).heap.size (w.alloc (.cells zeroLog 60)) W → Calls Try.prog 35 #[.pointer (some ⟨b, 0, none⟩)] W fun e w' => e = .returned (.int .i64 (Wl.hb d.S.length : Int)) ∧ w' = W) := hide fun W hW => halfBytes_any ((HD.out.alloc _).below hW)
  have HNo := hide (logOf_not (S := d.S) (k := k))
  have HYe := hide (logOf_yes (S := d.S) (k := k))
  have HFr : Hid (Wl.Front d.S k (Wl.parse (d.S.getD k ByteArray.empty)) ↔ Wl.MayBe (Wl.parse (d.S.getD k ByteArray.empty)) (Wl.hb d.S.length) ∧ (Wl.parse (d.S.getD k ByteArray.empty)).num % 2 = k ∧ Wl.headB (Wl.parse (d.S.getD k ByteArray.empty)) = d.S.getD k ByteArray.empty) := hide Iff.rfl
  obtain ⟨X, hX⟩ : ∃ X, Wl.logOf d.S k = X := ⟨_, rfl⟩
  rw [hX] at HNo HYe ⊢
  clear h hX hrd
  have HPa := hide (fun W => parseHead_any (d.S.getD k ByteArray.empty) hs8 W)
  have HLt := hide (parse_lt (d.S.getD k ByteArray.empty))
  have HU := hide hfit
  generalize d.S.getD k ByteArray.empty = s at *
  have hlt := HLt.out
  have HMb := hide (fun W => mayBe_any (Wl.parse s) hlt.2.2.1 hlt.2.2.2 (Wl.hb d.S.length) W)
  have HBy := hide (fun W => bytes_any (Wl.parse s) hlt.1 hlt.2.1 hlt.2.2.1 hlt.2.2.2 W)
  have HUs := hide (fun W => used_any (Wl.parse s) (Nat.le_of_lt hlt.2.2.1) (Nat.le_of_lt hlt.2.2.2) W)
  generalize Wl.parse s = H at *
  obtain ⟨num, half, sn, lg⟩ := H
  have HZ : Hid ((w.alloc (.cells zeroLog 60)).heap[w.heap.size]? = some (.cells #[.int .u64 0, .int .u8 0, .int .i64 0, .int .i64 0, .string ⟨#[]⟩, .slice none 0 0] 60 (0, 0))) := hide (heap_alloc_new w _)
  clear hlt
  simp only [hdC] at *
  go_enter Try.func47, Try.ntmps47
  go_wp2_with fail
  refine HRd.out.mono ?_
  rintro e w' ⟨rfl, rfl⟩
  go_wp2_with fail
  refine (HPa.out _).mono ?_
  rintro e w1 ⟨rfl, hb1⟩
  have HB0 : Hid (Below (w.alloc (.cells zeroLog 60)).heap.size (w.alloc (.cells zeroLog 60)) (w1.alloc (.cells #[.int .u64 (num : Int), .int .u8 (half : Int), .int .i64 (sn : Int), .int .i64 (lg : Int)] 58)).drew) := hide ((hb1.alloc hb1.size _).trans ⟨rfl, rfl, rfl, Nat.le_refl _, fun _ _ => rfl⟩)
  obtain ⟨Y, hY⟩ : ∃ Y, w1.heap.size = Y := ⟨_, rfl⟩
  have hst : (w1.alloc (.cells #[.int .u64 (num : Int), .int .u8 (half : Int), .int .i64 (sn : Int), .int .i64 (lg : Int)] 58)).heap[Y]? = some (.cells #[.int .u64 (num : Int), .int .u8 (half : Int), .int .i64 (sn : Int), .int .i64 (lg : Int)] 58 (0, 0)) := by rw [← hY]; exact heap_alloc_new w1 _
  have HW1 := hide hb1.size
  clear hb1 HRd HPa
  rw [decide_eq_true hm] at HMb
  have hne : (((num % 2 : Nat) : Int) != (k : Int)) = false := by simp; omega
  have hne2 : ((num : Int) % 2 != (k : Int)) = false := by simp; omega
  have HN : Hid (X = none) := hide (HNo.out fun h => hby (HFr.out.mp h).2.2)
  have hbn : ((Wl.headB ⟨num, half, sn, lg⟩).toList == s.toList) = false := beq_eq_false_iff_ne.2 fun h => hby (toList_inj h)
  generalize Wl.headB ⟨num, half, sn, lg⟩ = HBB at *
  clear hm HNo HYe HFr hby hsec
  go_wp2_with fail
  refine wp_region_held_drew (S := fun w' => w'.heap[Y]? = some (.cells #[.int .u64 (num : Int), .int .u8 (half : Int), .int .i64 (sn : Int), .int .i64 (lg : Int)] 58 (0, 0))) (by kernel_rfl) (hst) (fun hHeld => ?_)
  refine wpAnyH_take (i := 0) (v := .agg #[.int .u64 (num : Int), .int .u8 (half : Int), .int .i64 (sn : Int), .int .i64 (lg : Int)]) rfl (by kernel_rfl) (by kernel_rfl) (by kernel_rfl) (fun _ _ _ h => h) (Or.inl ⟨by rfl, fun w1 hSw => by clear hHeld; obtain ⟨c0, c1, c2, c3⟩ := box_cells hSw; go_simp⟩) hHeld ?_
  simp only [Act.put, List.setIfInBounds_toArray]
  refine wpAnyH_take (i := 1) (v := .pointer (some ⟨b, 0, none⟩)) rfl (by kernel_rfl) (by kernel_rfl) (by kernel_rfl) (fun _ _ _ h => h) (Or.inl ⟨by rfl, fun w1 hSw => by clear hHeld; obtain ⟨c0, c1, c2, c3⟩ := box_cells hSw; go_simp⟩) hHeld ?_
  try simp only [Act.put]
  refine wpAnyH_ready (rs := [2]) (by kernel_rfl) (by simp) ?_
  refine AllReadyH.cons rfl (fun K hK => ?_) AllReadyH.nil
  go_simp
  refine (HHb.out _ HB0.out).mono ?_
  rintro e w0a ⟨rfl, rfl⟩
  have HB1 := HB0
  refine hK.out _ _ (hHeld) (fun hHeld => ?_)
  clear hK K
  refine wpAnyH_ready (rs := [3]) (by kernel_rfl) (by simp) ?_
  refine AllReadyH.cons rfl (fun K hK => ?_) AllReadyH.nil
  go_simp
  refine (HMb.out _).mono ?_
  rintro e w1a ⟨rfl, hb1⟩
  have HB2 := hide (HB1.out.trans (hb1.mono HB1.out.size))
  have hs1 := box_bl hHeld hb1
  clear hb1
  refine hK.out _ _ (hs1) (fun hHeld => ?_)
  clear hK K
  refine wpAnyH_take (i := 4) (v := .bool false) rfl (by kernel_rfl) (by kernel_rfl) (by kernel_rfl) (fun _ _ _ h => h) (Or.inl ⟨by rfl, fun w1 hSw => by clear hHeld; obtain ⟨c0, c1, c2, c3⟩ := box_cells hSw; go_simp⟩) hHeld ?_
  try simp only [Act.put]
  refine wpAnyH_take (i := 5) (v := .bool false) rfl (by kernel_rfl) (by kernel_rfl) (by kernel_rfl) (fun _ _ _ h => h) (Or.inl ⟨by rfl, fun w1 hSw => by clear hHeld; obtain ⟨c0, c1, c2, c3⟩ := box_cells hSw; go_simp⟩) hHeld ?_
  try simp only [Act.put]
  refine wpAnyH_take (i := 6) (v := .agg #[.int .u64 (num : Int), .int .u8 (half : Int), .int .i64 (sn : Int), .int .i64 (lg : Int)]) rfl (by kernel_rfl) (by kernel_rfl) (by kernel_rfl) (fun _ _ _ h => h) (Or.inl ⟨by rfl, fun w1 hSw => by clear hHeld; obtain ⟨c0, c1, c2, c3⟩ := box_cells hSw; go_simp⟩) hHeld ?_
  try simp only [Act.put]
  refine wpAnyH_take (i := 8) (v := .int .i64 (k : Int)) rfl (by kernel_rfl) (by kernel_rfl) (by kernel_rfl) (fun _ _ _ h => h) (Or.inl ⟨by rfl, fun w1 hSw => by clear hHeld; obtain ⟨c0, c1, c2, c3⟩ := box_cells hSw; go_simp⟩) hHeld ?_
  try simp only [Act.put]
  refine wpAnyH_ready (rs := [7]) (by kernel_rfl) (by simp) ?_
  refine AllReadyH.cons rfl (fun K hK => ?_) AllReadyH.nil
  go_simp
  refine (sector_any ⟨num, half, sn, lg⟩ _).mono ?_
  rintro e w2a ⟨rfl, rfl⟩
  have HB3 := hide (HB2.out.alloc HB2.out.size (.cells (hdC ⟨num, half, sn, lg⟩) 58))
  refine hK.out _ _ (box_al hHeld _) (fun hHeld => ?_)
  clear hK K
  refine wpAnyH_ready (rs := [9]) (by kernel_rfl) (by simp) ?_
  refine AllReadyH.cons rfl (fun K hK => ?_) AllReadyH.nil
  go_simp
  have HB4 := HB3
  refine hK.out _ _ (hHeld) (fun hHeld => ?_)
  clear hK K
  refine wpAnyH_take (i := 10) (v := .bool false) rfl (by kernel_rfl) (by kernel_rfl) (by kernel_rfl) (fun _ _ _ h => h) (Or.inl ⟨by rfl, fun w1 hSw => by clear hHeld; obtain ⟨c0, c1, c2, c3⟩ := box_cells hSw; go_simp⟩) hHeld ?_
  try simp only [Act.put]
  refine wpAnyH_take (i := 11) (v := .bool false) rfl (by kernel_rfl) (by kernel_rfl) (by kernel_rfl) (fun _ _ _ h => h) (Or.inl ⟨by rfl, fun w1 hSw => by clear hHeld; obtain ⟨c0, c1, c2, c3⟩ := box_cells hSw; go_simp⟩) hHeld ?_
  try simp only [Act.put]
  refine wpAnyH_take (i := 12) (v := .agg #[.int .u64 (num : Int), .int .u8 (half : Int), .int .i64 (sn : Int), .int .i64 (lg : Int)]) rfl (by kernel_rfl) (by kernel_rfl) (by kernel_rfl) (fun _ _ _ h => h) (Or.inl ⟨by rfl, fun w1 hSw => by clear hHeld; obtain ⟨c0, c1, c2, c3⟩ := box_cells hSw; go_simp⟩) hHeld ?_
  try simp only [Act.put]
  refine wpAnyH_take (i := 14) (v := .string s) rfl (by kernel_rfl) (by kernel_rfl) (by kernel_rfl) (fun _ _ _ h => h) (Or.inl ⟨by rfl, fun w1 hSw => by clear hHeld; obtain ⟨c0, c1, c2, c3⟩ := box_cells hSw; go_simp⟩) hHeld ?_
  try simp only [Act.put]
  refine wpAnyH_ready (rs := [13]) (by kernel_rfl) (by simp) ?_
  refine AllReadyH.cons rfl (fun K hK => ?_) AllReadyH.nil
  go_simp
  refine (HBy.out _).mono ?_
  rintro e w4a ⟨rfl, hb4⟩
  have HB5 := hide (HB4.out.trans (hb4.mono HB4.out.size))
  have hs4 := box_bl hHeld hb4
  clear hb4
  refine hK.out _ _ (hs4) (fun hHeld => ?_)
  clear hK K
  refine wpAnyH_ready (rs := [15]) (by kernel_rfl) (by simp) ?_
  refine AllReadyH.cons rfl (fun K hK => ?_) AllReadyH.nil
  go_simp
  have HB6 := HB5
  refine hK.out _ _ (hHeld) (fun hHeld => ?_)
  clear hK K
  refine wpAnyH_ready (rs := [16]) (by kernel_rfl) (by simp) ?_
  refine AllReadyH.cons rfl (fun K hK => ?_) AllReadyH.nil
  go_simp
  have HB7 := HB6
  refine hK.out _ _ (hHeld) (fun hHeld => ?_)
  clear hK K
  refine wpAnyH_done (by kernel_rfl) ?_ _
  clear hHeld
  have HZd := hide (zbox HZ.out HB7.out)
  obtain ⟨z0, z1, z2, z3, z4, z5, zz⟩ := log_cells HZd.out
  have HBe : Hid (Below w.heap.size w _) := hide ((below_alloc w _).trans (HB7.out.mono (by simp)))
  clear HZd
  go_wp2_with fail
  exact bodyPost_ret (v := .tuple #[.agg zeroLog, .bool false]) (by simp [results, Try.results47, go_sem, z0, z1, z2, z3, z4, z5, zeroLog]) rfl ⟨((((((HBe.out.setCell (Nat.le_refl _) _).setCell (Nat.le_refl _) _).setCell (Nat.le_refl _) _).setCell (Nat.le_refl _) _).setCell (Nat.le_refl _) _).setCell (Nat.le_refl _) _), by rw [HN.out]⟩
end Go.Proofs.Ytojghjgbnnkldaa
end
