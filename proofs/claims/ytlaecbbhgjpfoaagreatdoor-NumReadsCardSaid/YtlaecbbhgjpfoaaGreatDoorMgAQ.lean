import Derived.Test.YtlaecbbhgjpfoaaGreatDoorMgAN
import Derived.Test.YtlaecbbhgjpfoaaGreatDoorMgAP

section
namespace Go.Proofs.YtlaecbbhgjpfoaaGreatDoor
open Go.RowKit Gn

/-- the document's Parse answers as the program's -/
theorem rparse_any (s : ByteArray) (hm : s.size ≤ 9223372036854775807) (w : World) :
    Calls Tryz.prog 5 #[.string s] w fun e w' => e = .returned (.tuple #[.int .u64 ((parseP s).1 : Int), .int .i64 (parseP s).2]) ∧ Below w.heap.size w w' :=
  rparse_of (fun v W e h0 h1 h2 h3 w => rounded_W v W e h0 h1 h2 h3 w) s hm w
end Go.Proofs.YtlaecbbhgjpfoaaGreatDoor
end
