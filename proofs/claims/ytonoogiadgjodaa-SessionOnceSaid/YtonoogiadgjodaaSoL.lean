import Derived.Test.YtonoogiadgjodaaSoL1
import Derived.Test.YtonoogiadgjodaaSoL2
import Derived.Test.YtonoogiadgjodaaSoL3
import Derived.Test.YtonoogiadgjodaaSoL4
import Derived.Test.YtonoogiadgjodaaSoL5
namespace Go.Proofs.Ytonoogiadgjodaa
open Go.RowKit

section
variable {B : Nat} {w w' : World} {A : Ja} {j : Jt} {own : Int → Int} {N : Int}
theorem does_any (hI : Inv own N j) (hN : N + 3 ≤ 4194304) (h : Jm B w A j) (hB : B ≤ w.heap.size) (kd n : Int) : Calls Try.prog 20 #[.pointer (some ⟨A.a, 0, none⟩), .agg #[.int .i64 kd, .int .i64 n]] w (DoP B N A w) := by
  by_cases h2 : kd = 2
  · exact does_2 hI hN h hB kd n (by omega) (by omega) (by omega) (by omega) (by omega) (by omega)
  by_cases h3 : kd = 3
  · exact does_3 hI hN h hB kd n (by omega) (by omega) (by omega) (by omega) (by omega) (by omega)
  by_cases h4 : kd = 4
  · exact does_4 hI hN h hB kd n (by omega) (by omega) (by omega) (by omega) (by omega) (by omega)
  by_cases h5 : kd = 5
  · exact does_5 hI hN h hB kd n (by omega) (by omega) (by omega) (by omega) (by omega) (by omega)
  exact does_1 hI hN h hB kd n h2 h3 h4 h5
end
end Go.Proofs.Ytonoogiadgjodaa
