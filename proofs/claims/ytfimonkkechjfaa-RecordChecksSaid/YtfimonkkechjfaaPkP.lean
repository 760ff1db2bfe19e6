import Derived.Test.YtfimonkkechjfaaPkO
namespace Go.Proofs.Ytfimonkkechjfaa
open Go.RowKit

end Go.Proofs.Ytfimonkkechjfaa
