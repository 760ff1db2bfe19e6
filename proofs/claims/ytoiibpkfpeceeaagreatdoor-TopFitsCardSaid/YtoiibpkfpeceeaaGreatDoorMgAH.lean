import Derived.Test.YtoiibpkfpeceeaaGreatDoorMgAG
import Derived.Shelf.Strings.BuilderK

section
namespace Go.Proofs.YtoiibpkfpeceeaaGreatDoor
open Go.RowKit Go.Shelf

end Go.Proofs.YtoiibpkfpeceeaaGreatDoor
end
