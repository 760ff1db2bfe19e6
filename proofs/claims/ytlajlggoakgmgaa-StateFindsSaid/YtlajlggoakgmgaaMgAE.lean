import Derived.Test.YtlajlggoakgmgaaRows
import Derived.Test.YtlajlggoakgmgaaMgAD
import Derived.WalkKit
import Derived.WalkSpells
import Derived.WalkLawsBesides
import Derived.BigQuiet

section
namespace Go.Proofs.Ytlajlggoakgmgaa
open Go.RowKit

end Go.Proofs.Ytlajlggoakgmgaa
end
