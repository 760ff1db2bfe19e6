import Derived.Test.YtnhibcadenmglaaDkRb
namespace Go.Proofs.Ytnhibcadenmglaa
open Go.RowKit

set_option maxHeartbeats 1000000 in
set_option maxRecDepth 8000 in
theorem rload_yes {w : World} {ad : Option Addr} {ab ao cap : Nat} {l : List ByteArray} (h : Rs w ad ab ao l) (h0 : loadE l = 0) :
    Calls Try.prog 14 #[.slice ad l.length cap] w fun e w' => ∃ c G, e = .returned (.tuple #[.pointer (some ⟨c, 0, none⟩), .int .i64 0]) ∧ Rk w.heap.size w' c G (fresh l) ∧ Below w.heap.size w w' := by
  obtain ⟨iS, hiS, zS0, zS1, zS2⟩ := info_parts Try.infoS
  obtain ⟨h8, hp, hq⟩ := loadE_ok h0
  have HF := hide (fits_any (cap := cap) h (by omega))
  rw [h0] at HF
  have H := hide h
  have HOK := hide (fresh_ok h8 hp hq)
  clear h h0 h8
  go_enter Try.func14, Try.ntmps14
  go_wp2_with (first
    | (go_at_call 36; refine HF.out.mono ?_; rintro e w1 ⟨rfl, e1⟩; have e1' := e1.symm; subst e1'; clear e1)
    | (at_builtin; refine wpList_append_read rfl _ _ 35 rfl w.heap.size 9 iS (.string ByteArray.empty) 1 16 Try.underlying35 hiS zS0 zS1 zS2 rfl (by decide) (.slice (some ⟨w.heap.size, 0, none⟩) 0 0) 0 [] rfl (World.ownsRow_made w #[] 0 (Nat.le_refl _) (by decide) rfl) ad l.length cap (l.map .string) rfl (by rw [List.length_map, Nat.mul_one]) H.out.none (fun a0 ha j u hu => Lib.cell?_alloc_some _ (H.out.src a0 ha j u hu)) (strs_one _) (by unfold maxLen; omega) (by omega) (by rw [World.size_alloc]; omega) ?_; intro v7 w7 hown7 hgrow7; rw [Nat.zero_add, List.nil_append] at hown7; have hb7 : Below w.heap.size w w7 := ((Below.refl _ w).alloc (Nat.le_refl _) _).grown hgrow7 (by rw [World.size_alloc]; omega) (fun k hk => by simp only [Value.ownBlock] at hk; injection hk with hk; omega); obtain ⟨ad7, cap7, rfl⟩ := own_slice hown7; have HO7 := hide hown7; have HB7 := hide hb7; clear hown7 hgrow7 hb7))
  go_ret2
  obtain ⟨ab7, hr⟩ := (Rs.own HO7.out).2
  have ea := hr.at_ hp
  subst ea
  have hab := HO7.out.lt ab7 rfl
  refine ⟨_, _, rfl, ⟨some ⟨ab7, 0, none⟩, cap7, ab7, none, 0, 0, ⟨heap_alloc_new w7 _, HB7.out.size, hr.keep (fun _ => Below.heap_alloc _ _ _ hab.2), (Rw.nil _), Nat.ne_of_lt hab.2, fun h => absurd h (by simp [fresh]), hab.1, fun h => absurd h (by simp [fresh]), HOK.out⟩, rfl⟩, HB7.out.alloc HB7.out.size _⟩

/-- a disk of the program's, and one of the document's -/
structure Pr (B : Nat) (w : World) (b c : Nat) (F G : Nat → Prop) (d e : DS) : Prop where
  hd : Dk B w b F d
  hr : Rk B w c G e
  cf : ¬ F c
  fg : ∀ k, F k → ¬ G k
/-- what is turned -/
def Tn (F : Nat → Prop) (c k : Nat) : Prop := F k ∨ k = c
section
variable {B : Nat} {w w' : World} {b c : Nat} {F G : Nat → Prop} {d e : DS}
theorem Pr.below (h : Pr B w b c F G d e) (hb : Below w.heap.size w w') : Pr B w' b c F G d e := ⟨h.hd.below hb, h.hr.below hb, h.cf, h.fg⟩
theorem Pr.drew (h : Pr B w b c F G d e) : Pr B w.drew b c F G d e := ⟨h.hd.drew, h.hr.drew, h.cf, h.fg⟩
theorem Pr.stepd (h : Pr B w b c F G d e) {F' : Nat → Prop} {d' : DS} (hD : Dk B w' b F' d') (hm : Mv F F' w w') : Pr B w' b c F' G d' e := by
  refine ⟨hD, h.hr.mv hm h.cf (fun k hk hf => h.fg k hf hk), fun hf => ?_, fun k hk hg => ?_⟩
  · rcases hm.foot c hf with h1 | h1
    · exact h.cf h1
    · exact absurd h.hr.lt (by omega)
  · rcases hm.foot k hk with h1 | h1
    · exact h.fg k h1 hg
    · exact absurd (h.hr.glt k hg).2 (by omega)
theorem Pr.stepr (h : Pr B w b c F G d e) {G' : Nat → Prop} {e' : DS} (hR : Rk B w' c G' e') (hm : Mv (Is c) (Is c) w w') (hg : ∀ k, G' k → G k ∨ w.heap.size ≤ k) : Pr B w' b c F G' d e' :=
  ⟨h.hd.mv hm (fun k hk hi => h.cf (by rw [← (show k = c from hi)]; exact hk)), hR, h.cf, fun k hk h1 => (hg k h1).elim (h.fg k hk) (fun h2 => absurd (h.hd.ftlt k hk).2 (by omega))⟩
theorem Mv.tn {F' : Nat → Prop} (h : Mv F F' w w') (c : Nat) : Mv (Tn F c) (Tn F' c) w w' :=
  ⟨h.os, h.tape, h.output, h.size, fun k hk hn => h.block k hk (fun hf => hn (.inl hf)), fun k hk => hk.elim (fun hf => (h.foot k hf).elim (fun x => .inl (.inl x)) .inr) (fun e => .inl (.inr e))⟩
theorem Mv.tnc (h : Mv (Is c) (Is c) w w') (F : Nat → Prop) : Mv (Tn F c) (Tn F c) w w' :=
  ⟨h.os, h.tape, h.output, h.size, fun k hk hn => h.block k hk (fun hf => hn (.inr hf)), fun _ hk => .inl hk⟩
end
/-- the document's disk, as the walk reads it -/
theorem Rk.cells {B : Nat} {w : World} {c : Nat} {G : Nat → Prop} {d : DS} (h : Rk B w c G d) : ∃ adS cS abS adR cR abR, w.cell? ⟨c, 0, none⟩ = some (.slice adS d.S.length cS) ∧ w.cell? ⟨c, 1, none⟩ = some (.slice adR d.R.length cR) ∧ w.cell? ⟨c, 4, none⟩ = some (.bool d.dead) ∧ Rs w adS abS 0 d.S ∧ Rw w adR abR 0 d.R ∧ RkV B w c adS cS abS adR cR abR d ∧ G = Gd abS abR d := by
  obtain ⟨a1, a2, a3, a4, a5, a6, h, rfl⟩ := h
  exact ⟨a1, a2, a3, a4, a5, a6, h.c0, h.c1, h.c4, h.rs, h.rr, h, rfl⟩
theorem RkV.below {B : Nat} {w w' : World} {c : Nat} {adS : Option Addr} {cS abS : Nat} {adR : Option Addr} {cR abR : Nat} {d : DS} (h : RkV B w c adS cS abS adR cR abR d) (hb : Below w.heap.size w w') : RkV B w' c adS cS abS adR cR abR d :=
  h.keep (fun j hj => hb.block j (hj.elim (fun e => by rw [e]; exact h.lt) (fun hg => (h.glt j hg).2)))
theorem rk_forget {B : Nat} {w : World} {c : Nat} {G : Nat → Prop} {d : DS} (h : Rk B w c G d) : ∃ G', Rk B (w.setCell ⟨c, 1, none⟩ (.slice none 0 0)) c G' d.forget ∧ Mv (Is c) (Is c) w (w.setCell ⟨c, 1, none⟩ (.slice none 0 0)) ∧ ∀ k, G' k → G k := by
  obtain ⟨a1, a2, a3, a4, a5, a6, h, rfl⟩ := h
  refine ⟨Gd a3 0 d.forget, ⟨a1, a2, a3, none, 0, 0, ⟨?_, h.low, h.rs.keep (fun _ => Below.heap_setCell _ _ _ _ h.ns), Rw.nil _, h.ns, fun h => absurd h (by simp [DS.forget]), h.ls, fun h => absurd h (by simp [DS.forget]), DS.forget_ok h.ok⟩, rfl⟩, (Mv.refl (F := Is c) w).set (show Is c c from rfl) _, ?_⟩
  · rw [setFive h.blk 1 _]; rfl
  · rintro k (rfl | ⟨h0, _⟩)
    · exact .inl rfl
    · simp [DS.forget] at h0
end Go.Proofs.Ytnhibcadenmglaa
