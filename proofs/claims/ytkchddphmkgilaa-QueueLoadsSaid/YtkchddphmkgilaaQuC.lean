import Derived.Test.YtkchddphmkgilaaQuB
namespace Go.Proofs.Ytkchddphmkgilaa
open Go.RowKit

theorem results_c {fn : Func} {p : Tmp} {ty : TypeId} (h : fn.results = #[.cell p ty]) (tmps : Array Value) (P : Program) (w : World) :
    (results fn tmps).run P w = ((asAddr (tmps.getD p undef)).run P w).andThen fun a w₁ => (loadVar ty a).run P w₁ := by
  simp only [results, h]
  simp [Sem.run_bind, Result.andThen]

def hdF (h : Int) (r : Rr) : Int := if h = 0 ∧ r.st = 1 then r.job else h
def gbF (g : Int) (r : Rr) : Int := if g < r.bdg then r.bdg else g
def fnF (b : Int) (f r : Rr) : Rr := if 0 < r.att ∧ r.bdg = b then r else f
def shF (r : Rr) (found : Bool) (o : Rr) : Bool := found || (decide (o ≠ r) && decide (o.bdg = r.bdg))
def opF (most : Int) (s : Int × Int) (r : Rr) : Int × Int := if r.st = 1 ∨ r.st = 2 then (s.1 + 1, s.2 + most - r.att) else s

set_option maxHeartbeats 1000000 in
theorem head1_any (w : World) (h : Int) (r : Rr) : Calls Try.prog 37 #[.int .i64 h, r.val] w fun e w' => e = .returned (.int .i64 (hdF h r)) ∧ Below w.heap.size w w' := by
  by_cases h0 : h = 0
  · by_cases h1 : r.st = 1
    · have b0 : (h == 0) = true := by simpa using h0
      have b1 : (r.st == 1) = true := by simpa using h1
      have HE : Hid (hdF h r = r.job) := if_pos ⟨h0, h1⟩
      clear h0 h1
      go_enter Try.func37, Try.ntmps37
      go_wp2
      go_ret
      exact ⟨by rw [HE.out]; rfl, below_alloc _ _⟩
    · have b0 : (h == 0) = true := by simpa using h0
      have b1 : (r.st == 1) = false := by simpa using h1
      have HE : Hid (hdF h r = h) := if_neg fun x => h1 x.2
      clear h0 h1
      go_enter Try.func37, Try.ntmps37
      go_wp2
      go_ret
      exact ⟨by rw [HE.out]; rfl, below_alloc _ _⟩
  · have b0 : (h == 0) = false := by simpa using h0
    have HE : Hid (hdF h r = h) := if_neg fun x => h0 x.1
    clear h0
    go_enter Try.func37, Try.ntmps37
    go_wp2
    go_ret
    exact ⟨by rw [HE.out]; rfl, below_alloc _ _⟩
set_option maxHeartbeats 1000000 in
theorem great1_any (w : World) (g : Int) (r : Rr) : Calls Try.prog 56 #[.int .i64 g, r.val] w fun e w' => e = .returned (.int .i64 (gbF g r)) ∧ Below w.heap.size w w' := by
  by_cases h : g < r.bdg
  · have HE : Hid (gbF g r = r.bdg) := if_pos h
    go_enter Try.func56, Try.ntmps56
    go_wp2
    go_ret
    exact ⟨by rw [HE.out]; rfl, below_alloc _ _⟩
  · have HE : Hid (gbF g r = g) := if_neg h
    go_enter Try.func56, Try.ntmps56
    go_wp2
    go_ret
    exact ⟨by rw [HE.out]; rfl, below_alloc _ _⟩
set_option maxHeartbeats 1000000 in
theorem find1_any {w : World} {p : Nat} {b : Int} (hp : w.cell? ⟨p, 0, none⟩ = some (.int .i64 b)) (f r : Rr) : Calls Try.prog 42 #[f.val, r.val, .pointer (some ⟨p, 0, none⟩)] w fun e w' => e = .returned (fnF b f r).val ∧ Below w.heap.size w w' := by
  have hlt : p < w.heap.size := World.block_lt_of_cell? _ _ hp
  have hq : ∀ o1 o2 o3, (((w.alloc o1).alloc o2).alloc o3).cell? ⟨p, 0, none⟩ = some (.int .i64 b) := fun o1 o2 o3 => Lib.cell?_alloc_some _ (Lib.cell?_alloc_some _ (Lib.cell?_alloc_some _ hp))
  have HB : ∀ o1 o2 o3, Below w.heap.size w (((w.alloc o1).alloc o2).alloc o3) := fun o1 o2 o3 => ((below_alloc w o1).alloc (by simp) o2).alloc (by simp; omega) o3
  by_cases h0 : 0 < r.att
  · by_cases h1 : r.bdg = b
    · have b1 : (r.bdg == b) = true := by simpa using h1
      have HE : Hid (fnF b f r = r) := if_pos ⟨h0, h1⟩
      clear h1
      go_enter Try.func42, Try.ntmps42
      go_wp2
      refine bodyPost_ret (by rw [results_c (fn := Try.f42) rfl]; go_simp; rfl) rfl ?_
      exact ⟨by rw [HE.out], by exact HB _ _ _⟩
    · have b1 : (r.bdg == b) = false := by simpa using h1
      have HE : Hid (fnF b f r = f) := if_neg fun x => h1 x.2
      clear h1
      go_enter Try.func42, Try.ntmps42
      go_wp2
      refine bodyPost_ret (by rw [results_c (fn := Try.f42) rfl]; go_simp; rfl) rfl ?_
      exact ⟨by rw [HE.out], by exact HB _ _ _⟩
  · have HE : Hid (fnF b f r = f) := if_neg fun x => h0 x.1
    go_enter Try.func42, Try.ntmps42
    go_wp2
    refine bodyPost_ret (by rw [results_c (fn := Try.f42) rfl]; go_simp; rfl) rfl ?_
    exact ⟨by rw [HE.out], by exact HB _ _ _⟩
end Go.Proofs.Ytkchddphmkgilaa
