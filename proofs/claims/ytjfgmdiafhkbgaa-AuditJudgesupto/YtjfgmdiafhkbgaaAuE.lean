import Derived.Test.YtjfgmdiafhkbgaaAuD
namespace Go.Proofs.Ytjfgmdiafhkbgaa
open Go.RowKit Go.MapKept
set_option maxRecDepth 8000

theorem getV (f : Int × Int × Int × Int → Option Int) (a : Int × Int × Int × Int) : KV.get f a = .int .i64 ((f a).getD 0) := by
  unfold Mk.get
  cases f a <;> rfl
theorem getL (f : Int × Int × Int → Option Int) (a : Int × Int × Int) : KL.get f a = .int .i64 ((f a).getD 0) := by
  unfold Mk.get
  cases f a <;> rfl
theorem getS (f : Int × Int → Option ByteArray) (a : Int × Int) : KS.get f a = .agg #[.string ((f a).getD ByteArray.empty)] := by
  unfold Mk.get
  cases f a <;> rfl
def endW (h : Hs) (i : Nat) (ba rt rb : Int) : Bool := decide (0 < (h.rs ((i : Int) + 1, ba, rt, rb)).getD 0)
def endA (h : Hs) (i : Nat) (ba c : Int) : Bool := decide (0 < (h.cn ((i : Int) + 1, ba, c)).getD 0)
section
variable {w w' : World} {B b : Nat} {h : Hs} {s : Hi}
theorem endedAt_any (H : Hm w B b h s) (i : Nat) (ba c : Int) (h1 : i64 ((i : Int) + 1)) (h2 : i64 ba) (h3 : i64 c) :
    Calls Try.prog 66 #[.pointer (some ⟨b, 0, none⟩), nr i, .int .i64 ba, .int .i64 c] w fun e w' => e = .returned (.bool (endA h i ba c)) ∧ Below w.heap.size w w' := by
  have hlk : (Instr.lookup 71 (.map (some s.mn)) (.agg #[.int .i64 ((i : Int) + 1), .int .i64 ba, .int .i64 c]) false).run Try.prog w = .ok (.int .i64 ((h.cn ((i : Int) + 1, ba, c)).getD 0)) w := by
    have := H.cn.look1 KL_good (a := ((i : Int) + 1, ba, c)) ⟨h1, h2, h3⟩
    rw [getL] at this
    exact this
  have c5 := H.cell 5 (by decide)
  dsimp only [hc] at c5
  unfold endA
  generalize (h.cn ((i : Int) + 1, ba, c)).getD 0 = n at *
  clear H h1 h2 h3
  go_enter Try.func66, Try.ntmps66
  go_wp2_with fail
  go_ret
  exact ⟨rfl, Below.refl _ _⟩
theorem endedWith_any (H : Hm w B b h s) (i : Nat) (ba rt rb : Int) (h1 : i64 ((i : Int) + 1)) (h2 : i64 ba) (h3 : i64 rt) (h4 : u64 rb) :
    Calls Try.prog 65 #[.pointer (some ⟨b, 0, none⟩), nr i, .int .i64 ba, .agg #[.int .i64 rt, .int .u64 rb]] w fun e w' => e = .returned (.bool (endW h i ba rt rb)) ∧ Below w.heap.size w w' := by
  have H1 := H.below (below_alloc w (.cells #[.int .i64 rt, .int .u64 rb] 40))
  have hlk : ∀ j, (Instr.lookup 70 (.map (some s.mr)) (.agg #[.int .i64 ((i : Int) + 1), .int .i64 ba, .int .i64 rt, .int .u64 rb]) false).run Try.prog ((w.alloc (.cells #[.int .i64 rt, .int .u64 rb] 40)).drewN j) = .ok (.int .i64 ((h.rs ((i : Int) + 1, ba, rt, rb)).getD 0)) ((w.alloc (.cells #[.int .i64 rt, .int .u64 rb] 40)).drewN j) := fun j => by
    have := (H1.rs.keep (w' := (w.alloc (.cells #[.int .i64 rt, .int .u64 rb] 40)).drewN j) rfl).look1 KV_good (a := ((i : Int) + 1, ba, rt, rb)) ⟨h1, h2, h3, h4⟩
    rw [getV] at this
    exact this
  have c4 := H1.cell 4 (by decide)
  dsimp only [hc] at c4
  unfold endW
  generalize (h.rs ((i : Int) + 1, ba, rt, rb)).getD 0 = n at *
  clear H H1 h1 h2 h3 h4
  go_enter Try.func65, Try.ntmps65
  go_wp2_with fail
  go_quiet (fail)
  go_wp2_with fail
  go_ret
  exact ⟨rfl, below_drewN (below_alloc _ _) _⟩
/-- is it that piece? -/
def isPc (h : Hs) (t : ByteArray) (ba ix : Int) : Bool := if ix = 0 then decide (t = ⟨#[]⟩) else decide (h.pc (ba, ix) = some t)
theorem tl_inj {a b : ByteArray} (h : a.toList = b.toList) : a = b := by
  rw [ByteArray.toList_eq, ByteArray.toList_eq] at h
  exact Go.WideShapes.bytes_inj h
theorem str_eq (a b : ByteArray) : (a.toList == b.toList) = decide (a = b) := by
  by_cases h : a = b
  · subst h; simp
  · rw [decide_eq_false h]; exact beq_eq_false_iff_ne.2 fun e => h (tl_inj e)
theorem isPiece_any (H : Hm w B b h s) (t : ByteArray) (ba ix : Int) (h2 : i64 ba) (h3 : i64 ix) :
    Calls Try.prog 68 #[.pointer (some ⟨b, 0, none⟩), .string t, .int .i64 ba, .int .i64 ix] w fun e w' => e = .returned (.bool (isPc h t ba ix)) ∧ Below w.heap.size w w' := by
  have hlk : (Instr.lookup 69 (.map (some s.mp)) (.agg #[.int .i64 ba, .int .i64 ix]) true).run Try.prog w = .ok (.tuple #[.agg #[.string ((h.pc (ba, ix)).getD ByteArray.empty)], .bool (h.pc (ba, ix)).isSome]) w := by
    have := H.pc.look KS_good (a := (ba, ix)) ⟨h2, h3⟩
    rw [getS] at this
    exact this
  have c3 := H.cell 3 (by decide)
  dsimp only [hc] at c3
  unfold isPc
  by_cases h0 : ix = 0
  · rw [if_pos h0]
    subst h0
    have he := str_eq t ⟨#[]⟩
    have HE : Hid (t.toList.isEmpty = decide (t = ⟨#[]⟩)) := hide (by
      rw [← he]
      cases ht : t.toList <;> simp [ByteArray.toList_eq])
    clear H h2 h3 hlk he
    go_enter Try.func68, Try.ntmps68
    go_wp2_with fail
    go_ret
    exact ⟨by rw [← HE.out]; rfl, Below.refl _ _⟩
  · rw [if_neg h0]
    have b0 : (ix == 0) = false := by simpa using h0
    cases hp : h.pc (ba, ix) with
    | none =>
      rw [hp] at hlk
      dsimp only [Option.getD_none, Option.isSome_none] at hlk
      rw [decide_eq_false (by simp)]
      clear H h2 h3 h0 hp
      go_enter Try.func68, Try.ntmps68
      go_wp2_with fail
      go_ret
      exact ⟨rfl, below_alloc _ _⟩
    | some u =>
      rw [hp] at hlk
      dsimp only [Option.getD_some, Option.isSome_some] at hlk
      have HE : Hid ((u.toList == t.toList) = decide (some u = some t)) := hide (by rw [str_eq]; simp)
      clear H h2 h3 h0 hp
      generalize decide (some u = some t) = r at *
      go_enter Try.func68, Try.ntmps68
      go_wp2_with fail
      go_ret
      exact ⟨by rw [← HE.out]; rfl, below_alloc _ _⟩
end
end Go.Proofs.Ytjfgmdiafhkbgaa
