import Derived.Test.YtmmnjkbdldaniabPkO
namespace Go.Proofs.Ytmmnjkbdldaniab
open Go.RowKit

end Go.Proofs.Ytmmnjkbdldaniab
