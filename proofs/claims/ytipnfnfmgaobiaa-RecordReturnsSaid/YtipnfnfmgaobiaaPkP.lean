import Derived.Test.YtipnfnfmgaobiaaPkO
namespace Go.Proofs.Ytipnfnfmgaobiaa
open Go.RowKit

end Go.Proofs.Ytipnfnfmgaobiaa
