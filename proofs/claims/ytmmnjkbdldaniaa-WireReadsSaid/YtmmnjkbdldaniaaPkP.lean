import Derived.Test.YtmmnjkbdldaniaaPkO
namespace Go.Proofs.Ytmmnjkbdldaniaa
open Go.RowKit

end Go.Proofs.Ytmmnjkbdldaniaa
