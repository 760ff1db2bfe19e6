import Derived.Test.YtapcmmljdpallaaPkO
namespace Go.Proofs.Ytapcmmljdpallaa
open Go.RowKit

end Go.Proofs.Ytapcmmljdpallaa
