import Derived.Test.YtjfgmdiafhkbgaaAuK
namespace Go.Proofs.Ytjfgmdiafhkbgaa
open Go.RowKit Go.MapKept
set_option maxRecDepth 8000

/-- the first one is kept -/
def kfs (f : Int × Int → Option ByteArray) (a : Int × Int) (t : ByteArray) : Int × Int → Option ByteArray := match f a with | none => upd f a t | some _ => f
section
variable {w w' : World} {B b : Nat} {h : Hs} {s : Hi}
/-- one of its maps is turned -/
theorem Hm.maps (H : Hm w B b h s) {m : Nat} (hg : w.grownBy w' (some m)) {h' : Hs} (e : h'.jobs = h.jobs ∧ h'.top = h.top ∧ h'.adm = h.adm ∧ h'.sh = h.sh ∧ h'.up = h.up) (hm : m = s.mc ∨ m = s.mp ∨ m = s.mr ∨ m = s.mn)
    (c1 : Mq KS w' s.mc h'.ch) (c2 : Mq KS w' s.mp h'.pc) (c3 : Mq KV w' s.mr h'.rs) (c4 : Mq KL w' s.mn h'.cn) : Hm w' B b h' s ∧ Kt B w w' := by
  obtain ⟨cs, h1, h2, h3⟩ := H.blk
  have hnc : ∀ {k : Nat} {c : Array Value} {t : TypeId} {r : Nat × Nat}, w.heap[k]? = some (.cells c t r) → m ≠ k := fun {k c t r} hk => by
    rcases hm with rfl | rfl | rfl | rfl
    · exact H.ch.ne_cells hk
    · exact H.pc.ne_cells hk
    · exact H.rs.ne_cells hk
    · exact H.cn.ne_cells hk
  have hlo : B ≤ m := by
    rcases hm with rfl | rfl | rfl | rfl
    · exact H.lo.2.1
    · exact H.lo.2.2.1
    · exact H.lo.2.2.2.1
    · exact H.lo.2.2.2.2
  have hno : ¬ Out w m := by
    rcases hm with rfl | rfl | rfl | rfl
    · exact H.ch.not_out
    · exact H.pc.not_out
    · exact H.rs.not_out
    · exact H.cn.not_out
  have hown : ∀ {e : TypeId} {size n base : Nat} {u : Value} {xs : List Value}, w.ownsRow base e size u n xs → w'.ownsRow base e size u n xs := fun ho => own_keep ho fun k e => by
    obtain ⟨c, hc⟩ := own_type ho k e
    exact hg.block k (ho.lt k e).2 fun e2 => hnc hc (by injection e2 with e2; exact e2.symm)
  refine ⟨⟨⟨cs, (hg.block _ (lt_of_block h1) fun e2 => hnc h1 (by injection e2 with e2; exact e2.symm)).trans h1, h2, fun o ho => ?_⟩, H.lo, H.ne, c1, c2, c3, c4, by rw [e.1]; exact H.l8, by rw [e.1]; exact H.jobs, hown H.row, fun x hx => hown (H.logs x hx), H.apart⟩, Kt.of_grown hg fun k e2 => by
    injection e2 with e2
    subst e2
    exact ⟨hlo, hno⟩⟩
  rw [h3 o ho]
  obtain ⟨_, e2, e3, e4, e5⟩ := e
  rcases lt26 ho with rfl|rfl|rfl|rfl|rfl|rfl|rfl|rfl|rfl|rfl|rfl|rfl|rfl|rfl|rfl|rfl|rfl|rfl|rfl|rfl|rfl|rfl|rfl|rfl|rfl|rfl <;> simp only [hc, e2, e3, e4, e5]
set_option maxHeartbeats 2000000 in
theorem keepFirst_any {m : Nat} {f : Int × Int → Option ByteArray} (hq : Mq KS w m f) (ek eo en el ej eb ei ec es er ew : Int) (ex : ByteArray) {et : List ByteArray} {q : Option Addr} {cq : Nat} (hb64 : i64 eb) (hx64 : i64 ei) :
    Calls Try.prog 67 #[.map (some m), .agg #[.int .i64 ek, .int .i64 eo, .int .i64 en, .int .i64 el, .int .i64 ej, .int .i64 eb, .int .i64 ei, .int .i64 ec, .int .i64 es, .int .i64 er, .int .u64 ew, .string ex, .slice q et.length cq]] w fun r w' => r = .returned (.tuple #[]) ∧ Mq KS w' m (kfs f (eb, ei) ex) ∧ w.grownBy w' (some m) := by
  have hB2 := below_of (below_alloc w (.cells #[.int .i64 ek, .int .i64 eo, .int .i64 en, .int .i64 el, .int .i64 ej, .int .i64 eb, .int .i64 ei, .int .i64 ec, .int .i64 es, .int .i64 er, .int .u64 ew, .string ex, .slice q et.length cq] 43)) (below_alloc (w.alloc (.cells #[.int .i64 ek, .int .i64 eo, .int .i64 en, .int .i64 el, .int .i64 ej, .int .i64 eb, .int .i64 ei, .int .i64 ec, .int .i64 es, .int .i64 er, .int .u64 ew, .string ex, .slice q et.length cq] 43)) (.cells #[.int .i64 eb, .int .i64 ei] 103))
  have hq2 := hq.keep (w' := ((w.alloc (.cells #[.int .i64 ek, .int .i64 eo, .int .i64 en, .int .i64 el, .int .i64 ej, .int .i64 eb, .int .i64 ei, .int .i64 ec, .int .i64 es, .int .i64 er, .int .u64 ew, .string ex, .slice q et.length cq] 43)).alloc (.cells #[.int .i64 eb, .int .i64 ei] 103))) (hB2.block _ hq.lt)
  have hlk : (Instr.lookup 69 (.map (some m)) (.agg #[.int .i64 eb, .int .i64 ei]) true).run Try.prog ((w.alloc (.cells #[.int .i64 ek, .int .i64 eo, .int .i64 en, .int .i64 el, .int .i64 ej, .int .i64 eb, .int .i64 ei, .int .i64 ec, .int .i64 es, .int .i64 er, .int .u64 ew, .string ex, .slice q et.length cq] 43)).alloc (.cells #[.int .i64 eb, .int .i64 ei] 103)) = .ok (.tuple #[.agg #[.string ((f (eb, ei)).getD ByteArray.empty)], .bool (f (eb, ei)).isSome]) ((w.alloc (.cells #[.int .i64 ek, .int .i64 eo, .int .i64 en, .int .i64 el, .int .i64 ej, .int .i64 eb, .int .i64 ei, .int .i64 ec, .int .i64 es, .int .i64 er, .int .u64 ew, .string ex, .slice q et.length cq] 43)).alloc (.cells #[.int .i64 eb, .int .i64 ei] 103)) := by
    have := hq2.look KS_good (a := (eb, ei)) ⟨hb64, hx64⟩
    rw [getS] at this
    exact this
  unfold kfs
  cases hf : f (eb, ei) with
  | some t =>
    rw [hf] at hlk
    dsimp only [Option.getD_some, Option.isSome_some] at hlk
    have HF : Hid (Mq KS (((w.alloc (.cells #[.int .i64 ek, .int .i64 eo, .int .i64 en, .int .i64 el, .int .i64 ej, .int .i64 eb, .int .i64 ei, .int .i64 ec, .int .i64 es, .int .i64 er, .int .u64 ew, .string ex, .slice q et.length cq] 43)).alloc (.cells #[.int .i64 eb, .int .i64 ei] 103)).alloc (.cells #[.string t] 100)) m f ∧ w.grownBy (((w.alloc (.cells #[.int .i64 ek, .int .i64 eo, .int .i64 en, .int .i64 el, .int .i64 ej, .int .i64 eb, .int .i64 ei, .int .i64 ec, .int .i64 es, .int .i64 er, .int .u64 ew, .string ex, .slice q et.length cq] 43)).alloc (.cells #[.int .i64 eb, .int .i64 ei] 103)).alloc (.cells #[.string t] 100)) (some m)) := hide (by
      have hb := below_of hB2 (below_alloc ((w.alloc (.cells #[.int .i64 ek, .int .i64 eo, .int .i64 en, .int .i64 el, .int .i64 ej, .int .i64 eb, .int .i64 ei, .int .i64 ec, .int .i64 es, .int .i64 er, .int .u64 ew, .string ex, .slice q et.length cq] 43)).alloc (.cells #[.int .i64 eb, .int .i64 ei] 103)) (.cells #[.string t] 100))
      exact ⟨hq.keep (hb.block _ hq.lt), hb.os, hb.tape, hb.output, hb.size, fun k hk _ => hb.block k hk⟩)
    clear hq hq2 hB2 hf hb64 hx64
    go_enter Try.func67, Try.ntmps67
    go_wp2_with fail
    go_end0
    exact ⟨rfl, HF.out⟩
  | none =>
    rw [hf] at hlk
    dsimp only [Option.getD_none, Option.isSome_none] at hlk
    have hb := below_of hB2 (below_alloc ((w.alloc (.cells #[.int .i64 ek, .int .i64 eo, .int .i64 en, .int .i64 el, .int .i64 ej, .int .i64 eb, .int .i64 ei, .int .i64 ec, .int .i64 es, .int .i64 er, .int .u64 ew, .string ex, .slice q et.length cq] 43)).alloc (.cells #[.int .i64 eb, .int .i64 ei] 103)) (.cells #[.string ByteArray.empty] 100))
    obtain ⟨w4, hst, hL, hg⟩ := (hq.keep (w' := (((w.alloc (.cells #[.int .i64 ek, .int .i64 eo, .int .i64 en, .int .i64 el, .int .i64 ej, .int .i64 eb, .int .i64 ei, .int .i64 ec, .int .i64 es, .int .i64 er, .int .u64 ew, .string ex, .slice q et.length cq] 43)).alloc (.cells #[.int .i64 eb, .int .i64 ei] 103)).alloc (.cells #[.string ByteArray.empty] 100))) (hb.block _ hq.lt)).store KS_good (a := (eb, ei)) ⟨hb64, hx64⟩ ex
    have hst2 : (Instr.mapUpdate 69 (.map (some m)) (.agg #[.int .i64 eb, .int .i64 ei]) (.agg #[.string ex])).run Try.prog (((w.alloc (.cells #[.int .i64 ek, .int .i64 eo, .int .i64 en, .int .i64 el, .int .i64 ej, .int .i64 eb, .int .i64 ei, .int .i64 ec, .int .i64 es, .int .i64 er, .int .u64 ew, .string ex, .slice q et.length cq] 43)).alloc (.cells #[.int .i64 eb, .int .i64 ei] 103)).alloc (.cells #[.string ByteArray.empty] 100)) = .ok () w4 := hst
    have HF : Hid (Mq KS w4 m (upd f (eb, ei) ex) ∧ w.grownBy w4 (some m)) := hide ⟨hL, hg.os.trans hb.os, hg.tape.trans hb.tape, hg.output.trans hb.output, Nat.le_trans hb.size hg.size, fun k hk hne => (hg.block k (Nat.lt_of_lt_of_le hk hb.size) hne).trans (hb.block k hk)⟩
    clear hq hq2 hB2 hf hb64 hx64 hb hst hL hg
    go_enter Try.func67, Try.ntmps67
    go_wp2_with fail
    go_end0
    exact ⟨rfl, HF.out⟩
set_option maxHeartbeats 4000000 in
theorem emitted_any (H : Hm w B b h s) (ek eo en el ej eb ei ec es er ew : Int) (ex : ByteArray) {et : List ByteArray} {q : Option Addr} {cq : Nat} (hb64 : i64 eb) (hx64 : i64 ei) :
    Calls Try.prog 42 #[.pointer (some ⟨b, 0, none⟩), .agg #[.int .i64 ek, .int .i64 eo, .int .i64 en, .int .i64 el, .int .i64 ej, .int .i64 eb, .int .i64 ei, .int .i64 ec, .int .i64 es, .int .i64 er, .int .u64 ew, .string ex, .slice q et.length cq]] w fun r w' => r = .returned (.tuple #[]) ∧ (∃ s', Hm w' B b { h with ch := kfs h.ch (eb, ei) ex } s') ∧ Kt B w w' := by
  have hBa := below_alloc w (.cells #[.int .i64 ek, .int .i64 eo, .int .i64 en, .int .i64 el, .int .i64 ej, .int .i64 eb, .int .i64 ei, .int .i64 ec, .int .i64 es, .int .i64 er, .int .u64 ew, .string ex, .slice q et.length cq] 43)
  have hbk := heap_alloc_new w (.cells #[.int .i64 ek, .int .i64 eo, .int .i64 en, .int .i64 el, .int .i64 ej, .int .i64 eb, .int .i64 ei, .int .i64 ec, .int .i64 es, .int .i64 er, .int .u64 ew, .string ex, .slice q et.length cq] 43)
  have H1 := H.below hBa.drew
  have HH1 := hide H1
  have HBa := hide hBa
  have HBL : Hid (b < ((w.alloc (.cells #[.int .i64 ek, .int .i64 eo, .int .i64 en, .int .i64 el, .int .i64 ej, .int .i64 eb, .int .i64 ei, .int .i64 ec, .int .i64 es, .int .i64 er, .int .u64 ew, .string ex, .slice q et.length cq] 43)).drew).heap.size) := hide H1.lt
  have hmw : s.mc < w.heap.size := H.ch.lt
  obtain ⟨cs, hblk, _⟩ := H.blk
  have HNE : Hid (b ≠ s.mc) := hide (Ne.symm (H.ch.ne_cells hblk))
  have HNE2 : Hid (w.heap.size ≠ s.mc) := hide (by omega)
  have HC := hide (keepFirst_any H1.ch ek eo en el ej eb ei ec es er ew ex (et := et) (q := q) (cq := cq) hb64 hx64)
  have c2 := H1.cell 2 (by decide)
  dsimp only [hc] at c2
  have HS0 : Hid ((fun V => V.cell? ⟨b, 2, none⟩ = some (.map (some s.mc)) ∧ V.heap[w.heap.size]? = some (.cells #[.int .i64 ek, .int .i64 eo, .int .i64 en, .int .i64 el, .int .i64 ej, .int .i64 eb, .int .i64 ei, .int .i64 ec, .int .i64 es, .int .i64 er, .int .u64 ew, .string ex, .slice q et.length cq] 43 (0, 0))) ((w.alloc (.cells #[.int .i64 ek, .int .i64 eo, .int .i64 en, .int .i64 el, .int .i64 ej, .int .i64 eb, .int .i64 ei, .int .i64 ec, .int .i64 es, .int .i64 er, .int .u64 ew, .string ex, .slice q et.length cq] 43)).drew)) := hide ⟨c2, hbk⟩
  have HCe : Hid (∀ w' : World, (fun V => V.cell? ⟨b, 2, none⟩ = some (.map (some s.mc)) ∧ V.heap[w.heap.size]? = some (.cells #[.int .i64 ek, .int .i64 eo, .int .i64 en, .int .i64 el, .int .i64 ej, .int .i64 eb, .int .i64 ei, .int .i64 ec, .int .i64 es, .int .i64 er, .int .u64 ew, .string ex, .slice q et.length cq] 43 (0, 0))) w' → w'.cell? ⟨b, 2, none⟩ = some (.map (some s.mc)) ∧ w'.cell? ⟨w.heap.size, 0, none⟩ = some (.int .i64 ek) ∧ w'.cell? ⟨w.heap.size, 1, none⟩ = some (.int .i64 eo) ∧ w'.cell? ⟨w.heap.size, 2, none⟩ = some (.int .i64 en) ∧ w'.cell? ⟨w.heap.size, 3, none⟩ = some (.int .i64 el) ∧ w'.cell? ⟨w.heap.size, 4, none⟩ = some (.int .i64 ej) ∧ w'.cell? ⟨w.heap.size, 5, none⟩ = some (.int .i64 eb) ∧ w'.cell? ⟨w.heap.size, 6, none⟩ = some (.int .i64 ei) ∧ w'.cell? ⟨w.heap.size, 7, none⟩ = some (.int .i64 ec) ∧ w'.cell? ⟨w.heap.size, 8, none⟩ = some (.int .i64 es) ∧ w'.cell? ⟨w.heap.size, 9, none⟩ = some (.int .i64 er) ∧ w'.cell? ⟨w.heap.size, 10, none⟩ = some (.int .u64 ew) ∧ w'.cell? ⟨w.heap.size, 11, none⟩ = some (.string ex) ∧ w'.cell? ⟨w.heap.size, 12, none⟩ = some (.slice q et.length cq)) := hide fun w' hw => ⟨hw.1, by simp [World.cell?, hw.2], by simp [World.cell?, hw.2], by simp [World.cell?, hw.2], by simp [World.cell?, hw.2], by simp [World.cell?, hw.2], by simp [World.cell?, hw.2], by simp [World.cell?, hw.2], by simp [World.cell?, hw.2], by simp [World.cell?, hw.2], by simp [World.cell?, hw.2], by simp [World.cell?, hw.2], by simp [World.cell?, hw.2], by simp [World.cell?, hw.2]⟩
  clear H H1 hblk hbk hBa hb64 hx64 hmw
  go_enter Try.func42, Try.ntmps42
  go_wp2_with fail
  refine wp_region_held_drew (S := fun V => V.cell? ⟨b, 2, none⟩ = some (.map (some s.mc)) ∧ V.heap[w.heap.size]? = some (.cells #[.int .i64 ek, .int .i64 eo, .int .i64 en, .int .i64 el, .int .i64 ej, .int .i64 eb, .int .i64 ei, .int .i64 ec, .int .i64 es, .int .i64 er, .int .u64 ew, .string ex, .slice q et.length cq] 43 (0, 0))) (by kernel_rfl) (HS0.out) (fun hHeld => ?_)
  refine wpAnyH_take (i := 0) (v := .pointer (some ⟨b, 0, none⟩)) rfl (by kernel_rfl) (by kernel_rfl) (by kernel_rfl) (fun _ _ _ h => h) (Or.inl ⟨by kernel_rfl, fun w1 hSw => by clear hHeld; obtain ⟨f0, g0, g1, g2, g3, g4, g5, g6, g7, g8, g9, g10, g11, g12⟩ := HCe.out _ hSw; go_simp⟩) hHeld ?_
  try simp only [Act.put]
  try simp only [List.getElem_toArray]
  try simp only [List.getElem_cons_succ]
  try simp only [List.getElem_cons_zero]
  try simp only [List.setIfInBounds_toArray]
  try simp only [List.set_cons_succ, List.set_cons_zero]
  refine wpAnyH_take (i := 1) (v := .pointer (some ⟨b, 0, none⟩)) rfl (by kernel_rfl) (by kernel_rfl) (by kernel_rfl) (fun _ _ _ h => h) (Or.inl ⟨by kernel_rfl, fun w1 hSw => by clear hHeld; obtain ⟨f0, g0, g1, g2, g3, g4, g5, g6, g7, g8, g9, g10, g11, g12⟩ := HCe.out _ hSw; go_simp⟩) hHeld ?_
  try simp only [Act.put]
  try simp only [List.getElem_toArray]
  try simp only [List.getElem_cons_succ]
  try simp only [List.getElem_cons_zero]
  try simp only [List.setIfInBounds_toArray]
  try simp only [List.set_cons_succ, List.set_cons_zero]
  refine wpAnyH_take (i := 2) (v := .pointer (some ⟨b, 2, none⟩)) rfl (by kernel_rfl) (by kernel_rfl) (by kernel_rfl) (fun _ _ _ h => h) (Or.inl ⟨by kernel_rfl, fun w1 hSw => by clear hHeld; obtain ⟨f0, g0, g1, g2, g3, g4, g5, g6, g7, g8, g9, g10, g11, g12⟩ := HCe.out _ hSw; go_simp⟩) hHeld ?_
  try simp only [Act.put]
  try simp only [List.getElem_toArray]
  try simp only [List.getElem_cons_succ]
  try simp only [List.getElem_cons_zero]
  try simp only [List.setIfInBounds_toArray]
  try simp only [List.set_cons_succ, List.set_cons_zero]
  refine wpAnyH_take (i := 3) (v := .map (some s.mc)) rfl (by kernel_rfl) (by kernel_rfl) (by kernel_rfl) (fun _ _ _ h => h) (Or.inl ⟨by kernel_rfl, fun w1 hSw => by clear hHeld; obtain ⟨f0, g0, g1, g2, g3, g4, g5, g6, g7, g8, g9, g10, g11, g12⟩ := HCe.out _ hSw; go_simp⟩) hHeld ?_
  try simp only [Act.put]
  try simp only [List.getElem_toArray]
  try simp only [List.getElem_cons_succ]
  try simp only [List.getElem_cons_zero]
  try simp only [List.setIfInBounds_toArray]
  try simp only [List.set_cons_succ, List.set_cons_zero]
  refine wpAnyH_take (i := 4) (v := .agg #[.int .i64 ek, .int .i64 eo, .int .i64 en, .int .i64 el, .int .i64 ej, .int .i64 eb, .int .i64 ei, .int .i64 ec, .int .i64 es, .int .i64 er, .int .u64 ew, .string ex, .slice q et.length cq]) rfl (by kernel_rfl) (by kernel_rfl) (by kernel_rfl) (fun _ _ _ h => h) (Or.inl ⟨by kernel_rfl, fun w1 hSw => by clear hHeld; obtain ⟨f0, g0, g1, g2, g3, g4, g5, g6, g7, g8, g9, g10, g11, g12⟩ := HCe.out _ hSw; go_simp⟩) hHeld ?_
  try simp only [Act.put]
  try simp only [List.getElem_toArray]
  try simp only [List.getElem_cons_succ]
  try simp only [List.getElem_cons_zero]
  try simp only [List.setIfInBounds_toArray]
  try simp only [List.set_cons_succ, List.set_cons_zero]
  refine wpAnyH_ready (rs := [5]) (by kernel_rfl) (by simp) ?_
  refine AllReadyH.cons rfl (fun K hK => ?_) AllReadyH.nil
  go_simp
  refine HC.out.mono ?_
  rintro e V1 ⟨rfl, hq1, hg1⟩
  have HQ1 := hide hq1
  have HG1 := hide hg1
  have HS1 : Hid ((fun V => V.cell? ⟨b, 2, none⟩ = some (.map (some s.mc)) ∧ V.heap[w.heap.size]? = some (.cells #[.int .i64 ek, .int .i64 eo, .int .i64 en, .int .i64 el, .int .i64 ej, .int .i64 eb, .int .i64 ei, .int .i64 ec, .int .i64 es, .int .i64 er, .int .u64 ew, .string ex, .slice q et.length cq] 43 (0, 0))) V1) := hide ⟨(World.cell?_of_block (a := ⟨b, 2, none⟩) (hg1.block b HBL.out (fun e => HNE.out (by injection e)))).trans hHeld.1, (hg1.block _ (lt_of_block hHeld.2) (fun e => HNE2.out (by injection e))).trans hHeld.2⟩
  clear hq1 hg1
  refine hK.out _ _ (HS1.out) (fun hHeld => ?_)
  clear hK K
  try simp only [Act.put]
  try simp only [List.getElem_toArray]
  try simp only [List.getElem_cons_succ]
  try simp only [List.getElem_cons_zero]
  try simp only [List.setIfInBounds_toArray]
  try simp only [List.set_cons_succ, List.set_cons_zero]
  refine wpAnyH_done (by kernel_rfl) ?_ _
  go_wp2_with fail
  go_end0
  have HF := HH1.out.maps (h' := { h with ch := kfs h.ch (eb, ei) ex }) HG1.out ⟨rfl, rfl, rfl, rfl, rfl⟩ (.inl rfl) HQ1.out (HH1.out.pc.keep (HG1.out.block _ HH1.out.pc.lt (fun e => ((Ne.symm HH1.out.ne.1)) (by injection e)))) (HH1.out.rs.keep (HG1.out.block _ HH1.out.rs.lt (fun e => ((Ne.symm HH1.out.ne.2.1)) (by injection e)))) (HH1.out.cn.keep (HG1.out.block _ HH1.out.cn.lt (fun e => ((Ne.symm HH1.out.ne.2.2.1)) (by injection e)))) 
  exact ⟨rfl, ⟨_, HF.1⟩, (Kt.of_below HBa.out.drew).trans HF.2⟩

set_option maxHeartbeats 4000000 in
theorem wrote_any (H : Hm w B b h s) (ek eo en el ej eb ei ec es er ew : Int) (ex : ByteArray) {et : List ByteArray} {q : Option Addr} {cq : Nat} (hb64 : i64 eb) (hx64 : i64 ei) :
    Calls Try.prog 43 #[.pointer (some ⟨b, 0, none⟩), .agg #[.int .i64 ek, .int .i64 eo, .int .i64 en, .int .i64 el, .int .i64 ej, .int .i64 eb, .int .i64 ei, .int .i64 ec, .int .i64 es, .int .i64 er, .int .u64 ew, .string ex, .slice q et.length cq]] w fun r w' => r = .returned (.tuple #[]) ∧ (∃ s', Hm w' B b { h with pc := kfs h.pc (eb, ei) ex } s') ∧ Kt B w w' := by
  have hBa := below_alloc w (.cells #[.int .i64 ek, .int .i64 eo, .int .i64 en, .int .i64 el, .int .i64 ej, .int .i64 eb, .int .i64 ei, .int .i64 ec, .int .i64 es, .int .i64 er, .int .u64 ew, .string ex, .slice q et.length cq] 43)
  have hbk := heap_alloc_new w (.cells #[.int .i64 ek, .int .i64 eo, .int .i64 en, .int .i64 el, .int .i64 ej, .int .i64 eb, .int .i64 ei, .int .i64 ec, .int .i64 es, .int .i64 er, .int .u64 ew, .string ex, .slice q et.length cq] 43)
  have H1 := H.below hBa.drew
  have HH1 := hide H1
  have HBa := hide hBa
  have HBL : Hid (b < ((w.alloc (.cells #[.int .i64 ek, .int .i64 eo, .int .i64 en, .int .i64 el, .int .i64 ej, .int .i64 eb, .int .i64 ei, .int .i64 ec, .int .i64 es, .int .i64 er, .int .u64 ew, .string ex, .slice q et.length cq] 43)).drew).heap.size) := hide H1.lt
  have hmw : s.mp < w.heap.size := H.pc.lt
  obtain ⟨cs, hblk, _⟩ := H.blk
  have HNE : Hid (b ≠ s.mp) := hide (Ne.symm (H.pc.ne_cells hblk))
  have HNE2 : Hid (w.heap.size ≠ s.mp) := hide (by omega)
  have HC := hide (keepFirst_any H1.pc ek eo en el ej eb ei ec es er ew ex (et := et) (q := q) (cq := cq) hb64 hx64)
  have c3 := H1.cell 3 (by decide)
  dsimp only [hc] at c3
  have HS0 : Hid ((fun V => V.cell? ⟨b, 3, none⟩ = some (.map (some s.mp)) ∧ V.heap[w.heap.size]? = some (.cells #[.int .i64 ek, .int .i64 eo, .int .i64 en, .int .i64 el, .int .i64 ej, .int .i64 eb, .int .i64 ei, .int .i64 ec, .int .i64 es, .int .i64 er, .int .u64 ew, .string ex, .slice q et.length cq] 43 (0, 0))) ((w.alloc (.cells #[.int .i64 ek, .int .i64 eo, .int .i64 en, .int .i64 el, .int .i64 ej, .int .i64 eb, .int .i64 ei, .int .i64 ec, .int .i64 es, .int .i64 er, .int .u64 ew, .string ex, .slice q et.length cq] 43)).drew)) := hide ⟨c3, hbk⟩
  have HCe : Hid (∀ w' : World, (fun V => V.cell? ⟨b, 3, none⟩ = some (.map (some s.mp)) ∧ V.heap[w.heap.size]? = some (.cells #[.int .i64 ek, .int .i64 eo, .int .i64 en, .int .i64 el, .int .i64 ej, .int .i64 eb, .int .i64 ei, .int .i64 ec, .int .i64 es, .int .i64 er, .int .u64 ew, .string ex, .slice q et.length cq] 43 (0, 0))) w' → w'.cell? ⟨b, 3, none⟩ = some (.map (some s.mp)) ∧ w'.cell? ⟨w.heap.size, 0, none⟩ = some (.int .i64 ek) ∧ w'.cell? ⟨w.heap.size, 1, none⟩ = some (.int .i64 eo) ∧ w'.cell? ⟨w.heap.size, 2, none⟩ = some (.int .i64 en) ∧ w'.cell? ⟨w.heap.size, 3, none⟩ = some (.int .i64 el) ∧ w'.cell? ⟨w.heap.size, 4, none⟩ = some (.int .i64 ej) ∧ w'.cell? ⟨w.heap.size, 5, none⟩ = some (.int .i64 eb) ∧ w'.cell? ⟨w.heap.size, 6, none⟩ = some (.int .i64 ei) ∧ w'.cell? ⟨w.heap.size, 7, none⟩ = some (.int .i64 ec) ∧ w'.cell? ⟨w.heap.size, 8, none⟩ = some (.int .i64 es) ∧ w'.cell? ⟨w.heap.size, 9, none⟩ = some (.int .i64 er) ∧ w'.cell? ⟨w.heap.size, 10, none⟩ = some (.int .u64 ew) ∧ w'.cell? ⟨w.heap.size, 11, none⟩ = some (.string ex) ∧ w'.cell? ⟨w.heap.size, 12, none⟩ = some (.slice q et.length cq)) := hide fun w' hw => ⟨hw.1, by simp [World.cell?, hw.2], by simp [World.cell?, hw.2], by simp [World.cell?, hw.2], by simp [World.cell?, hw.2], by simp [World.cell?, hw.2], by simp [World.cell?, hw.2], by simp [World.cell?, hw.2], by simp [World.cell?, hw.2], by simp [World.cell?, hw.2], by simp [World.cell?, hw.2], by simp [World.cell?, hw.2], by simp [World.cell?, hw.2], by simp [World.cell?, hw.2]⟩
  clear H H1 hblk hbk hBa hb64 hx64 hmw
  go_enter Try.func43, Try.ntmps43
  go_wp2_with fail
  refine wp_region_held_drew (S := fun V => V.cell? ⟨b, 3, none⟩ = some (.map (some s.mp)) ∧ V.heap[w.heap.size]? = some (.cells #[.int .i64 ek, .int .i64 eo, .int .i64 en, .int .i64 el, .int .i64 ej, .int .i64 eb, .int .i64 ei, .int .i64 ec, .int .i64 es, .int .i64 er, .int .u64 ew, .string ex, .slice q et.length cq] 43 (0, 0))) (by kernel_rfl) (HS0.out) (fun hHeld => ?_)
  refine wpAnyH_take (i := 0) (v := .pointer (some ⟨b, 0, none⟩)) rfl (by kernel_rfl) (by kernel_rfl) (by kernel_rfl) (fun _ _ _ h => h) (Or.inl ⟨by kernel_rfl, fun w1 hSw => by clear hHeld; obtain ⟨f0, g0, g1, g2, g3, g4, g5, g6, g7, g8, g9, g10, g11, g12⟩ := HCe.out _ hSw; go_simp⟩) hHeld ?_
  try simp only [Act.put]
  try simp only [List.getElem_toArray]
  try simp only [List.getElem_cons_succ]
  try simp only [List.getElem_cons_zero]
  try simp only [List.setIfInBounds_toArray]
  try simp only [List.set_cons_succ, List.set_cons_zero]
  refine wpAnyH_take (i := 1) (v := .pointer (some ⟨b, 0, none⟩)) rfl (by kernel_rfl) (by kernel_rfl) (by kernel_rfl) (fun _ _ _ h => h) (Or.inl ⟨by kernel_rfl, fun w1 hSw => by clear hHeld; obtain ⟨f0, g0, g1, g2, g3, g4, g5, g6, g7, g8, g9, g10, g11, g12⟩ := HCe.out _ hSw; go_simp⟩) hHeld ?_
  try simp only [Act.put]
  try simp only [List.getElem_toArray]
  try simp only [List.getElem_cons_succ]
  try simp only [List.getElem_cons_zero]
  try simp only [List.setIfInBounds_toArray]
  try simp only [List.set_cons_succ, List.set_cons_zero]
  refine wpAnyH_take (i := 2) (v := .pointer (some ⟨b, 3, none⟩)) rfl (by kernel_rfl) (by kernel_rfl) (by kernel_rfl) (fun _ _ _ h => h) (Or.inl ⟨by kernel_rfl, fun w1 hSw => by clear hHeld; obtain ⟨f0, g0, g1, g2, g3, g4, g5, g6, g7, g8, g9, g10, g11, g12⟩ := HCe.out _ hSw; go_simp⟩) hHeld ?_
  try simp only [Act.put]
  try simp only [List.getElem_toArray]
  try simp only [List.getElem_cons_succ]
  try simp only [List.getElem_cons_zero]
  try simp only [List.setIfInBounds_toArray]
  try simp only [List.set_cons_succ, List.set_cons_zero]
  refine wpAnyH_take (i := 3) (v := .map (some s.mp)) rfl (by kernel_rfl) (by kernel_rfl) (by kernel_rfl) (fun _ _ _ h => h) (Or.inl ⟨by kernel_rfl, fun w1 hSw => by clear hHeld; obtain ⟨f0, g0, g1, g2, g3, g4, g5, g6, g7, g8, g9, g10, g11, g12⟩ := HCe.out _ hSw; go_simp⟩) hHeld ?_
  try simp only [Act.put]
  try simp only [List.getElem_toArray]
  try simp only [List.getElem_cons_succ]
  try simp only [List.getElem_cons_zero]
  try simp only [List.setIfInBounds_toArray]
  try simp only [List.set_cons_succ, List.set_cons_zero]
  refine wpAnyH_take (i := 4) (v := .agg #[.int .i64 ek, .int .i64 eo, .int .i64 en, .int .i64 el, .int .i64 ej, .int .i64 eb, .int .i64 ei, .int .i64 ec, .int .i64 es, .int .i64 er, .int .u64 ew, .string ex, .slice q et.length cq]) rfl (by kernel_rfl) (by kernel_rfl) (by kernel_rfl) (fun _ _ _ h => h) (Or.inl ⟨by kernel_rfl, fun w1 hSw => by clear hHeld; obtain ⟨f0, g0, g1, g2, g3, g4, g5, g6, g7, g8, g9, g10, g11, g12⟩ := HCe.out _ hSw; go_simp⟩) hHeld ?_
  try simp only [Act.put]
  try simp only [List.getElem_toArray]
  try simp only [List.getElem_cons_succ]
  try simp only [List.getElem_cons_zero]
  try simp only [List.setIfInBounds_toArray]
  try simp only [List.set_cons_succ, List.set_cons_zero]
  refine wpAnyH_ready (rs := [5]) (by kernel_rfl) (by simp) ?_
  refine AllReadyH.cons rfl (fun K hK => ?_) AllReadyH.nil
  go_simp
  refine HC.out.mono ?_
  rintro e V1 ⟨rfl, hq1, hg1⟩
  have HQ1 := hide hq1
  have HG1 := hide hg1
  have HS1 : Hid ((fun V => V.cell? ⟨b, 3, none⟩ = some (.map (some s.mp)) ∧ V.heap[w.heap.size]? = some (.cells #[.int .i64 ek, .int .i64 eo, .int .i64 en, .int .i64 el, .int .i64 ej, .int .i64 eb, .int .i64 ei, .int .i64 ec, .int .i64 es, .int .i64 er, .int .u64 ew, .string ex, .slice q et.length cq] 43 (0, 0))) V1) := hide ⟨(World.cell?_of_block (a := ⟨b, 3, none⟩) (hg1.block b HBL.out (fun e => HNE.out (by injection e)))).trans hHeld.1, (hg1.block _ (lt_of_block hHeld.2) (fun e => HNE2.out (by injection e))).trans hHeld.2⟩
  clear hq1 hg1
  refine hK.out _ _ (HS1.out) (fun hHeld => ?_)
  clear hK K
  try simp only [Act.put]
  try simp only [List.getElem_toArray]
  try simp only [List.getElem_cons_succ]
  try simp only [List.getElem_cons_zero]
  try simp only [List.setIfInBounds_toArray]
  try simp only [List.set_cons_succ, List.set_cons_zero]
  refine wpAnyH_done (by kernel_rfl) ?_ _
  go_wp2_with fail
  go_end0
  have HF := HH1.out.maps (h' := { h with pc := kfs h.pc (eb, ei) ex }) HG1.out ⟨rfl, rfl, rfl, rfl, rfl⟩ (.inr (.inl rfl)) (HH1.out.ch.keep (HG1.out.block _ HH1.out.ch.lt (fun e => (HH1.out.ne.1) (by injection e)))) HQ1.out (HH1.out.rs.keep (HG1.out.block _ HH1.out.rs.lt (fun e => ((Ne.symm HH1.out.ne.2.2.2.1)) (by injection e)))) (HH1.out.cn.keep (HG1.out.block _ HH1.out.cn.lt (fun e => ((Ne.symm HH1.out.ne.2.2.2.2.1)) (by injection e)))) 
  exact ⟨rfl, ⟨_, HF.1⟩, (Kt.of_below HBa.out.drew).trans HF.2⟩

end
end Go.Proofs.Ytjfgmdiafhkbgaa
