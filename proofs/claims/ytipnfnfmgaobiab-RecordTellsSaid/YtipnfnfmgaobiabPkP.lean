import Derived.Test.YtipnfnfmgaobiabPkO
namespace Go.Proofs.Ytipnfnfmgaobiab
open Go.RowKit

end Go.Proofs.Ytipnfnfmgaobiab
