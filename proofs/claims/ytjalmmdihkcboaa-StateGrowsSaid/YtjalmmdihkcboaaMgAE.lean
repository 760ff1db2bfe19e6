import Derived.Test.YtjalmmdihkcboaaRows
import Derived.Test.YtjalmmdihkcboaaMgAD
import Derived.WalkKit
import Derived.WalkSpells
import Derived.WalkLawsBesides
import Derived.BigQuiet

section
namespace Go.Proofs.Ytjalmmdihkcboaa
open Go.RowKit

end Go.Proofs.Ytjalmmdihkcboaa
end
